import unittest

from cordbook.errors import Crowded, NoMove, NoPlace
from cordbook.moves import laid_over, taken_apart
from tests import model
from tests.samples import CROSSED_ONCE, EMPTY, HOPF, TREFOIL, chain, many_sheets

# The two crossings that come, by point 9; E and F are e' and f' there.
OVERLAYS = (("fmke", "kmFE"), ("fmkE", "kmFe"), ("fekm", "kEFm"), ("fEkm", "keFm"))


def told_overlay(sheet, upper, lower, way):
    """The sheet with one line laid over another, built from the words of point 9."""
    crossings = [list(crossing) for crossing in sheet[0]]
    for line, name in ((upper, "E"), (lower, "F")):
        at, end = [(at, end) for at, end in model.places(crossings) if crossings[at][end] == line][1]
        crossings[at][end] = name
    names = {"e": upper, "f": lower, "E": "E", "F": "F", "m": "m", "k": "k"}
    return model.told(crossings + [[names[sign] for sign in row] for row in OVERLAYS[way]], sheet[1])


def told_apart(sheet, one, other):
    """The sheet with the two taken apart, by the places of point 10; None where they don't lie so."""
    crossings = sheet[0]
    for turns in ((0, 0), (0, 2), (2, 0), (2, 2)):
        x = [(one, (end + turns[0]) % 4) for end in range(4)]
        y = [(other, (end + turns[1]) % 4) for end in range(4)]
        lines = {place: crossings[place[0]][place[1]] for place in x + y}
        for end, far in ((1, 3), (3, 1)):
            if lines[x[2]] == lines[y[0]] and lines[x[end]] == lines[y[end]]:
                return model.spliced(sheet, (one, other), [(x[0], y[2]), (x[far], y[far])])
    return None


class LaidOverTest(unittest.TestCase):
    def test_all_four_ways(self):
        # Line 0 keeps (0, 0) and loses (0, 3); line 2 keeps (1, 0) and loses (1, 3).
        sheet = (((0, 1, 1, 0), (2, 3, 3, 2)), 0)
        old = ((0, 1, 1, 2), (3, 4, 4, 5))
        self.assertEqual(laid_over(sheet, 0, 2, 0), (old + ((3, 6, 7, 0), (7, 6, 5, 2)), 0))
        self.assertEqual(laid_over(sheet, 0, 2, 1), (old + ((3, 6, 7, 2), (7, 6, 5, 0)), 0))
        self.assertEqual(laid_over(sheet, 0, 2, 2), (old + ((3, 0, 6, 7), (6, 2, 5, 7)), 0))
        self.assertEqual(laid_over(sheet, 0, 2, 3), (old + ((3, 2, 6, 7), (6, 0, 5, 7)), 0))
        self.assertEqual(laid_over(sheet, 2, 0, 0), (old + ((0, 6, 7, 3), (7, 6, 2, 5)), 0))

    def test_lines_that_share_a_crossing(self):
        self.assertEqual(laid_over(CROSSED_ONCE, 0, 1, 0), (((0, 1, 2, 3), (1, 4, 5, 0), (5, 4, 3, 2)), 0))
        self.assertEqual(laid_over(CROSSED_ONCE, 1, 0, 3), (((0, 1, 2, 3), (0, 3, 4, 5), (4, 1, 2, 5)), 0))

    def test_all_lines_of_many_sheets(self):
        for sheet in many_sheets():
            if len(sheet[0]) > 8:
                continue
            lines = range(2 * len(sheet[0]))
            for upper, lower in ((e, f) for e in lines for f in lines if e != f):
                for way in range(4):
                    self.assertEqual(laid_over(sheet, upper, lower, way), told_overlay(sheet, upper, lower, way))

    def test_no_such_line(self):
        for sheet, upper, lower in ((HOPF, 4, 0), (HOPF, 0, 4), (HOPF, -1, 0), (HOPF, 0, -1), ((HOPF[0], 2), 4, 0),
                                    ((HOPF[0], 2), 0, 4), (((), 2), 0, 0), (EMPTY, 0, 1), (HOPF, 10 ** 45, 1)):
            with self.subTest(sheet=sheet, upper=upper, lower=lower):
                with self.assertRaises(NoPlace):
                    laid_over(sheet, upper, lower, 0)

    def test_both_the_same(self):
        for line in range(4):
            with self.assertRaises(NoMove):
                laid_over(HOPF, line, line, 2)

    def test_eight_crossings_and_nine(self):
        self.assertEqual(len(laid_over(chain(8), 0, 15, 1)[0]), 10)
        for n in (9, 10):
            with self.assertRaises(Crowded):
                laid_over(chain(n), 0, 1, 1)

    def test_no_place_ahead_of_no_move(self):
        for line in (4, -1):
            with self.assertRaises(NoPlace):
                laid_over((HOPF[0], 1), line, line, 0)

    def test_no_place_and_no_move_ahead_of_crowded(self):
        for upper, lower in ((18, 0), (0, -1), (18, 18)):
            with self.assertRaises(NoPlace):
                laid_over(chain(9, 1), upper, lower, 0)
        with self.assertRaises(NoMove):
            laid_over(chain(9), 3, 3, 0)


def other_reading(crossing):
    return crossing[2:] + crossing[:2]


class TakenApartTest(unittest.TestCase):
    def test_each_reading_by_the_ends_one(self):
        self.check_readings((10, 1, 2, 13), (2, 1, 20, 23))

    def test_each_reading_by_the_ends_three(self):
        self.check_readings((10, 13, 2, 1), (2, 23, 20, 1))

    def check_readings(self, one, other):
        # 10 is joined with 20, and 13 with 23; the third crossing shows it.
        for x in (one, other_reading(one)):
            for y in (other, other_reading(other)):
                for third, left in (((10, 13, 20, 23), (0, 1, 0, 1)), ((10, 20, 23, 13), (0, 0, 1, 1)),
                                    ((13, 20, 10, 23), (0, 1, 1, 0))):
                    with self.subTest(x=x, y=y, third=third):
                        self.assertEqual(taken_apart(model.told([x, y, third], 0), 0, 1), ((left,), 0))
                        self.assertEqual(taken_apart(model.told([y, third, x], 2), 2, 0), ((left,), 2))

    def test_pairs_that_fit_more_than_one_reading(self):
        self.assertEqual(taken_apart((((0, 1, 2, 3), (2, 1, 0, 3)), 0), 0, 1), ((), 2))
        self.assertEqual(taken_apart((((0, 1, 2, 3), (2, 1, 0, 3)), 0), 1, 0), ((), 2))
        self.assertEqual(taken_apart((((0, 1, 2, 3), (0, 3, 2, 1)), 5), 0, 1), ((), 7))
        # By both pairs of upper ends, while the lower cord goes on; then by both readings of the lower one.
        self.assertEqual(taken_apart((((0, 0, 1, 2), (1, 3, 4, 5), (4, 3, 2, 5)), 0), 1, 2), (((0, 0, 1, 1),), 1))
        self.assertEqual(taken_apart((((0, 0, 1, 2), (3, 1, 4, 5), (4, 2, 3, 5)), 0), 1, 2), (((0, 0, 1, 1),), 1))

    def test_rings_come_where_the_other_ends_bear_the_same_line(self):
        # The lower cord's far ends are one line; then each crossing's own two; then crosswise.
        self.assertEqual(taken_apart(model.told([(9, 1, 2, 7), (2, 1, 9, 8), (7, 8, 5, 5)], 0), 0, 1),
                         (((0, 0, 1, 1),), 1))
        self.assertEqual(taken_apart(model.told([(7, 1, 2, 9), (2, 1, 8, 9), (7, 8, 5, 5)], 0), 0, 1),
                         (((0, 0, 1, 1),), 1))
        self.assertEqual(taken_apart(model.told([(8, 1, 2, 8), (2, 1, 9, 9)], 3), 0, 1), ((), 4))
        self.assertEqual(taken_apart(model.told([(8, 1, 2, 9), (2, 1, 9, 8)], 3), 0, 1), ((), 4))
        self.assertEqual(taken_apart(model.told([(8, 1, 2, 8), (2, 1, 9, 6), (9, 5, 6, 5)], 0), 0, 1),
                         (((0, 1, 0, 1),), 0))

    def test_many_sheets(self):
        found = 0
        for sheet in many_sheets() + list(model.all_sheets(3))[::5]:
            for one in range(len(sheet[0])):
                for other in range(len(sheet[0])):
                    if one == other:
                        continue
                    expected = told_apart(sheet, one, other)
                    if expected is None:
                        with self.assertRaises(NoMove):
                            taken_apart(sheet, one, other)
                    else:
                        found += 1
                        self.assertEqual(taken_apart(sheet, one, other), expected)
        self.assertGreater(found, 1000)

    def test_a_line_laid_over_another_comes_apart_again(self):
        for sheet in many_sheets():
            n = len(sheet[0])
            for upper, lower in ((e, f) for e in range(2 * n) for f in range(2 * n) if e != f and n <= 4):
                for way in range(4):
                    self.assertEqual(taken_apart(laid_over(sheet, upper, lower, way), n, n + 1), sheet)

    def test_both_the_same(self):
        for sheet, at in ((HOPF, 0), (HOPF, 1), (CROSSED_ONCE, 0), (chain(2), 1)):
            with self.assertRaises(NoMove):
                taken_apart(sheet, at, at)

    def test_they_do_not_lie_so(self):
        for sheet in (HOPF, TREFOIL, chain(2), model.told([(7, 1, 2, 6), (2, 5, 4, 1), (7, 6, 5, 4)], 0),
                      model.told([(7, 1, 2, 6), (1, 2, 4, 5), (7, 6, 5, 4)], 0),
                      model.told([(7, 1, 2, 6), (2, 3, 4, 5), (7, 6, 5, 4), (1, 3, 8, 8)], 0)):
            for one, other in ((0, 1), (1, 0)):
                with self.subTest(sheet=sheet):
                    with self.assertRaises(NoMove):
                        taken_apart(sheet, one, other)

    def test_no_such_crossing(self):
        lying = (((0, 1, 2, 3), (2, 1, 0, 3)), 0)
        for one, other in ((0, 2), (2, 0), (-1, 0), (-2, 1), (0, -1), (2, 2), (-1, -1), (10 ** 33, 0)):
            with self.assertRaises(NoPlace):
                taken_apart(lying, one, other)
        with self.assertRaises(NoPlace):
            taken_apart(EMPTY, 0, 0)


if __name__ == "__main__":
    unittest.main()
