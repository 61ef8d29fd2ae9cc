import unittest

from cordbook.colours import colourings
from cordbook.moves import curled, laid_over
from cordbook.strands import strands
from cordbook.sums import straight
from cordbook.tidy import tidied
from tests import model
from tests.samples import CROSSED_ONCE, EMPTY, FIGURE_EIGHT, HOPF, TREFOIL, chain, many_sheets, twisted
from tests.test_overlays import told_apart

# Two crossings that come apart and leave two rings.
PAIR = ((0, 1, 2, 3), (2, 1, 0, 3))


def side_by_side(*groups):
    """The sheet of crossings told with names of their own in each group: (number, crossing) by rising numbers."""
    rows = [(at, [(k, name) for name in row]) for k, group in enumerate(groups) for at, row in group]
    return model.told([row for at, row in sorted(rows)], 0)


def told_uncurl(sheet, at):
    crossing = sheet[0][at]
    for end in range(4):
        if crossing[end] == crossing[(end + 1) % 4]:
            return model.spliced(sheet, (at,), [((at, (end + 2) % 4), (at, (end + 3) % 4))])
    return None


def told_tidied(sheet):
    """Tidying by the words of point 17, with the tests' own moves."""
    deeds = []
    while True:
        numbers = range(len(sheet[0]))
        found = [(("uncurl", at), told_uncurl(sheet, at)) for at in numbers]
        found += [(("apart", x, y), told_apart(sheet, x, y)) for x in numbers for y in numbers if x < y]
        found = [(deed, left) for deed, left in found if left is not None]
        if not found:
            return (sheet, deeds)
        deeds.append(found[0][0])
        sheet = found[0][1]


class NothingToDoTest(unittest.TestCase):
    def test_no_crossing(self):
        self.assertEqual(tidied(EMPTY), (EMPTY, []))
        self.assertEqual(tidied(((), 100)), (((), 100), []))

    def test_the_sheet_as_it_was(self):
        for sheet in (TREFOIL, FIGURE_EIGHT, HOPF, CROSSED_ONCE, twisted(10), (TREFOIL[0], 7)):
            self.assertEqual(tidied(sheet), (sheet, []))

    def test_each_answer_has_a_list_of_its_own(self):
        tidied(TREFOIL)[1].append("more")
        self.assertEqual(tidied(TREFOIL), (TREFOIL, []))


class CurlsTest(unittest.TestCase):
    def test_one(self):
        self.assertEqual(tidied(chain(1)), (((), 1), [("uncurl", 0)]))
        self.assertEqual(tidied(curled(TREFOIL, 4, 2)), (TREFOIL, [("uncurl", 3)]))

    def test_the_least_first_and_numbers_as_they_are_by_then(self):
        self.assertEqual(tidied(chain(4, 2)), (((), 6), [("uncurl", 0)] * 4))
        sheet = side_by_side([(0, (0, 1, 0, 1))], [(1, (0, 0, 1, 1))], [(2, (0, 1, 0, 1))], [(3, (0, 1, 1, 0))])
        self.assertEqual(tidied(sheet), ((((0, 1, 0, 1), (2, 3, 2, 3)), 2), [("uncurl", 1), ("uncurl", 2)]))

    def test_a_curl_that_comes_behind_another(self):
        # Both lines of the crossing 0 have curls in them; only without the first of these it has a curl itself.
        sheet = curled(curled(chain(1), 0, 0), 2, 1)
        self.assertEqual(sheet, (((0, 1, 2, 3), (4, 4, 0, 1), (2, 5, 5, 3)), 0))
        self.assertEqual(tidied(sheet), (((), 1), [("uncurl", 1), ("uncurl", 0), ("uncurl", 0)]))


class PairsTest(unittest.TestCase):
    def test_one(self):
        self.assertEqual(tidied((PAIR, 0)), (((), 2), [("apart", 0, 1)]))
        self.assertEqual(tidied(laid_over(TREFOIL, 0, 3, 1)), (TREFOIL, [("apart", 3, 4)]))

    def test_a_curl_ahead_of_a_pair(self):
        sheet = side_by_side([(0, PAIR[0]), (1, PAIR[1])], [(2, (0, 0, 1, 1))])
        self.assertEqual(tidied(sheet), (((), 3), [("uncurl", 2), ("apart", 0, 1)]))

    def test_a_curl_that_comes_behind_a_pair_is_ahead_of_other_pairs(self):
        # Taken apart, the first pair joins a with b and e with f, and the last crossing has two curls.
        sheet = side_by_side([(0, "amke"), (1, "kmbf"), (4, "abef")], [(2, PAIR[0]), (3, PAIR[1])])
        self.assertEqual(tidied(sheet), (((), 3), [("apart", 0, 1), ("uncurl", 2), ("apart", 0, 1)]))

    def test_a_crossing_that_lies_so_with_two_others(self):
        for others in (((2, 1, 4, 5), (0, 3, 4, 5)), ((0, 3, 4, 5), (2, 1, 4, 5))):
            sheet = model.told(((0, 1, 2, 3),) + others, 0)
            self.assertIsNotNone(told_apart(sheet, 0, 1))
            self.assertIsNotNone(told_apart(sheet, 0, 2))
            self.assertEqual(tidied(sheet), (CROSSED_ONCE, [("apart", 0, 1)]))

    def test_least_x_ahead_of_least_y(self):
        sheet = side_by_side([(0, PAIR[0]), (3, PAIR[1])], [(1, PAIR[0]), (2, PAIR[1])])
        self.assertEqual(tidied(sheet), (((), 4), [("apart", 0, 3), ("apart", 0, 1)]))
        sheet = side_by_side([(0, PAIR[0]), (2, PAIR[1])], [(1, PAIR[0]), (3, PAIR[1])])
        self.assertEqual(tidied(sheet), (((), 4), [("apart", 0, 2), ("apart", 0, 1)]))


class ManySheetsTest(unittest.TestCase):
    def test_by_the_words_of_the_document(self):
        deeds = 0
        for sheet in many_sheets() + list(model.all_sheets(3, 1))[::3]:
            expected = told_tidied(sheet)
            deeds += len(expected[1])
            self.assertEqual(tidied(sheet), expected)
        self.assertGreater(deeds, 1000)

    def test_moves_put_in_come_out_again(self):
        for line in range(6):
            for way in range(4):
                sheet = laid_over(curled((TREFOIL[0], 2), line, way), line, (line + 2) % 6, 3 - way)
                left = tidied(sheet)[0]
                self.assertEqual((len(left[0]), left[1]), (3, 2))

    def test_what_stays_stays(self):
        for sheet in many_sheets():
            left, deeds = tidied(sheet)
            gone = sum({"uncurl": 1, "apart": 2}[deed[0]] for deed in deeds)
            self.assertEqual(len(left[0]), len(sheet[0]) - gone)
            self.assertEqual(straight(left), straight(sheet))
            self.assertEqual(strands(left), strands(sheet))
            self.assertEqual(colourings(left, 3), colourings(sheet, 3))

    def test_kinds(self):
        found = tidied(laid_over(chain(2), 0, 2, 0))
        self.assertIs(type(found), tuple)
        self.assertIs(type(found[1]), list)
        self.assertEqual({type(deed) for deed in found[1]}, {tuple})

    def test_ten_crossings_and_more(self):
        self.assertEqual(tidied(chain(10, 100)), (((), 110), [("uncurl", 0)] * 10))
        self.assertEqual(tidied(chain(12)), (((), 12), [("uncurl", 0)] * 12))


if __name__ == "__main__":
    unittest.main()
