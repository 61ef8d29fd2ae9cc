import unittest

from cordbook.errors import Crowded, NoPlace, NoSheet
from cordbook.sheets import LIMIT, beside, drawn, ends, mirrored, split
from tests import model
from tests.samples import CROSSED_ONCE, EMPTY, HOPF, TREFOIL, chain, many_sheets

WAYS = (((0, 1), (2, 3)), ((0, 3), (1, 2)))


class DrawnTest(unittest.TestCase):
    def test_limit(self):
        self.assertEqual(LIMIT, 10)

    def test_lines_are_numbered_by_first_standing(self):
        self.assertEqual(drawn([(7, 3, 7, 9), (3, 9, 5, 5)], 2), (((0, 1, 0, 2), (1, 2, 3, 3)), 2))
        self.assertEqual(drawn([(3, 2, 1, 0), (0, 1, 2, 3)], 0), (((0, 1, 2, 3), (3, 2, 1, 0)), 0))
        self.assertEqual(drawn([(1, 0, 0, 1)], 0), (((0, 1, 1, 0),), 0))

    def test_names_below_nought(self):
        self.assertEqual(drawn([(-1, 1, 0, -2), (1, -2, -1, 0)], 1), (((0, 1, 2, 3), (1, 3, 0, 2)), 1))

    def test_names_of_sixty_figures(self):
        a, b = 10 ** 60 - 1, 10 ** 60 - 2
        self.assertEqual(drawn([(a, b, -a, -b), (-b, -a, b, a)], 0), (((0, 1, 2, 3), (3, 2, 1, 0)), 0))
        with self.assertRaises(NoSheet):
            drawn([(a, b, -a, -b)], 0)

    def test_numbered_sheets_stay(self):
        for sheet in many_sheets():
            self.assertEqual(drawn(list(sheet[0]), sheet[1]), sheet)

    def test_all_told_is_of_tuples(self):
        sheet = drawn([(5, 6, 6, 5)], 0)
        self.assertIs(type(sheet), tuple)
        self.assertIs(type(sheet[0]), tuple)
        self.assertIs(type(sheet[0][0]), tuple)

    def test_no_crossing(self):
        self.assertEqual(drawn([], 0), ((), 0))

    def test_rings_alone(self):
        self.assertEqual(drawn([], 5), ((), 5))
        self.assertEqual(drawn([], 101), ((), 101))

    def test_ten_crossings_and_eleven(self):
        self.assertEqual(drawn(list(chain(10)[0]), 0), chain(10))
        with self.assertRaises(Crowded):
            drawn(list(chain(11)[0]), 0)

    def test_a_name_once_three_times_four_times(self):
        for crossings in ([(0, 1, 1, 2)], [(0, 0, 0, 1), (1, 2, 2, 3)], [(0, 0, 0, 1)], [(4, 4, 4, 4)],
                          [(0, 0, 1, 1), (0, 2, 2, 3)], [(0, 0, 1, 1), (0, 0, 2, 2)]):
            with self.subTest(crossings):
                with self.assertRaises(NoSheet):
                    drawn(crossings, 0)

    def test_crowded_comes_ahead_of_no_sheet(self):
        with self.assertRaises(Crowded):
            drawn(list(chain(10)[0]) + [(90, 91, 92, 93)], 0)

    def test_what_is_handed_in_stays(self):
        crossings = [(9, -4, 9, 2), (2, 5, -4, 5)]
        drawn(crossings, 1)
        self.assertEqual(crossings, [(9, -4, 9, 2), (2, 5, -4, 5)])
        wrong = [(1, 2, 3, 4)]
        with self.assertRaises(NoSheet):
            drawn(wrong, 1)
        self.assertEqual(wrong, [(1, 2, 3, 4)])


class EndsTest(unittest.TestCase):
    def test_both_places_at_one_crossing(self):
        self.assertEqual(ends((((0, 1, 1, 0),), 0), 0), ((0, 0), (0, 3)))
        self.assertEqual(ends((((0, 1, 1, 0),), 0), 1), ((0, 1), (0, 2)))
        self.assertEqual(ends(CROSSED_ONCE, 1), ((0, 1), (0, 3)))

    def test_places_at_two_crossings(self):
        self.assertEqual(ends(TREFOIL, 0), ((0, 0), (1, 3)))
        self.assertEqual(ends(TREFOIL, 3), ((0, 3), (2, 0)))
        self.assertEqual(ends(TREFOIL, 5), ((1, 1), (2, 2)))

    def test_every_line_of_many_sheets(self):
        for sheet in many_sheets():
            wired = model.wires(sheet[0])
            for place in wired:
                line = sheet[0][place[0]][place[1]]
                self.assertEqual(ends(sheet, line), tuple(sorted((place, wired[place]))))

    def test_no_such_line(self):
        for sheet, past in ((TREFOIL, 6), (EMPTY, 0), (((), 3), 0), (HOPF, 4)):
            for line in (-1, -past - 1, past, past + 1, 10 ** 40, -10 ** 40):
                with self.subTest(sheet=sheet, line=line):
                    with self.assertRaises(NoPlace):
                        ends(sheet, line)


class SplitTest(unittest.TestCase):
    def test_ordinary(self):
        self.assertEqual(split(HOPF, 0, 0), (((0, 0, 1, 1),), 0))
        self.assertEqual(split(HOPF, 0, 1), (((0, 1, 1, 0),), 0))
        self.assertEqual(split(TREFOIL, 0, 0), (((0, 1, 2, 2), (3, 3, 1, 0)), 0))
        self.assertEqual(split(TREFOIL, 0, 1), (((0, 1, 2, 3), (3, 2, 1, 0)), 0))
        self.assertEqual(split(TREFOIL, 1, 1), (((0, 1, 2, 3), (3, 2, 1, 0)), 0))

    def test_a_line_twice_at_neighbouring_ends(self):
        self.assertEqual(split((((0, 0, 1, 1),), 0), 0, 0), ((), 2))
        self.assertEqual(split((((0, 0, 1, 1),), 0), 0, 1), ((), 1))
        self.assertEqual(split((((0, 1, 1, 0),), 4), 0, 0), ((), 5))
        self.assertEqual(split((((0, 1, 1, 0),), 4), 0, 1), ((), 6))

    def test_one_ring_and_a_line_that_goes_on(self):
        sheet = (((0, 0, 1, 2), (1, 3, 3, 2)), 0)
        self.assertEqual(split(sheet, 0, 0), (((0, 1, 1, 0),), 1))
        self.assertEqual(split(sheet, 0, 1), (((0, 1, 1, 0),), 0))
        self.assertEqual(split(sheet, 1, 0), (((0, 0, 1, 1),), 0))
        self.assertEqual(split(sheet, 1, 1), (((0, 0, 1, 1),), 1))

    def test_a_line_twice_at_opposite_ends(self):
        self.assertEqual(split(CROSSED_ONCE, 0, 0), ((), 1))
        self.assertEqual(split(CROSSED_ONCE, 0, 1), ((), 1))
        self.assertEqual(split((((0, 1, 0, 2), (2, 3, 1, 3)), 0), 0, 0), (((0, 1, 0, 1),), 0))
        self.assertEqual(split((((0, 1, 2, 1), (2, 3, 0, 3)), 0), 0, 1), (((0, 1, 0, 1),), 0))

    def test_the_others_stay_in_order(self):
        self.assertEqual(split((((0, 1, 0, 1), (2, 2, 3, 3), (4, 5, 5, 4)), 0), 1, 0),
                         (((0, 1, 0, 1), (2, 3, 3, 2)), 2))

    def test_both_ways_at_every_crossing(self):
        for sheet in many_sheets():
            for at in range(len(sheet[0])):
                for way in (0, 1):
                    bridges = [((at, one), (at, other)) for one, other in WAYS[way]]
                    self.assertEqual(split(sheet, at, way), model.spliced(sheet, (at,), bridges))

    def test_no_such_crossing(self):
        for sheet, at in ((TREFOIL, -1), (TREFOIL, -3), (TREFOIL, 3), (TREFOIL, 10 ** 30), (EMPTY, 0), (((), 2), 0)):
            for way in (0, 1):
                with self.assertRaises(NoPlace):
                    split(sheet, at, way)


class BeyondTheLimitTest(unittest.TestCase):
    """A sheet of somewhat more crossings or rings is refused only where the document says so."""

    def test_sheets_of_eleven(self):
        self.assertEqual(ends(chain(11), 21), ((10, 2), (10, 3)))
        self.assertEqual(split(chain(12), 3, 0), chain(11, 2))
        self.assertEqual(mirrored(mirrored(chain(11))), chain(11))

    def test_rings_above_a_hundred(self):
        self.assertEqual(split(chain(1, 101), 0, 0), ((), 103))
        self.assertEqual(mirrored(((), 150)), ((), 150))
        self.assertEqual(beside(((), 100), ((), 100)), ((), 200))


class MirroredTest(unittest.TestCase):
    def test_ordinary(self):
        self.assertEqual(mirrored((((0, 0, 1, 1),), 3)), (((0, 1, 1, 0),), 3))
        self.assertEqual(mirrored(HOPF), (((0, 1, 2, 3), (1, 0, 3, 2)), 0))

    def test_without_crossings(self):
        self.assertEqual(mirrored(EMPTY), EMPTY)
        self.assertEqual(mirrored(((), 7)), ((), 7))

    def test_many(self):
        for sheet in many_sheets():
            self.assertEqual(mirrored(sheet), model.told([(b, c, d, a) for a, b, c, d in sheet[0]], sheet[1]))

    def test_ten_crossings(self):
        self.assertEqual(len(mirrored(chain(10))[0]), 10)


class BesideTest(unittest.TestCase):
    def test_ordinary(self):
        self.assertEqual(beside((((0, 1, 0, 1),), 1), (((0, 1, 1, 0),), 2)), (((0, 1, 0, 1), (2, 3, 3, 2)), 3))
        self.assertEqual(beside((((0, 1, 1, 0),), 2), (((0, 1, 0, 1),), 1)), (((0, 1, 1, 0), (2, 3, 2, 3)), 3))

    def test_without_crossings(self):
        self.assertEqual(beside(EMPTY, EMPTY), EMPTY)
        self.assertEqual(beside(((), 3), HOPF), (HOPF[0], 3))
        self.assertEqual(beside(HOPF, ((), 100)), (HOPF[0], 100))

    def test_ten_together_and_more(self):
        self.assertEqual(beside(chain(4), chain(6)), chain(10))
        self.assertEqual(beside(chain(10, 2), ((), 9)), chain(10, 11))
        for one, other in ((5, 6), (10, 1), (1, 10), (10, 10)):
            with self.assertRaises(Crowded):
                beside(chain(one), chain(other))


if __name__ == "__main__":
    unittest.main()
