import unittest

from cordbook.errors import Crowded, NoMove, NoPlace
from cordbook.moves import curled, uncurled
from tests import model
from tests.samples import CROSSED_ONCE, EMPTY, HOPF, TREFOIL, chain, many_sheets

# The crossing that comes, by point 7; the letters are its names there.
CURLS = ("vvlu", "lvvu", "vvul", "uvvl")


def told_curl(sheet, line, way):
    """The sheet with a curl, built from the words of point 7."""
    crossings = [list(crossing) for crossing in sheet[0]]
    if line == 2 * len(crossings):
        names = {"l": "new", "u": "new", "v": "v"}
        return model.told(crossings + [[names[sign] for sign in CURLS[way]]], sheet[1] - 1)
    second = [(at, end) for at, end in model.places(crossings) if crossings[at][end] == line][1]
    crossings[second[0]][second[1]] = "u"
    names = {"l": line, "u": "u", "v": "v"}
    return model.told(crossings + [[names[sign] for sign in CURLS[way]]], sheet[1])


class CurledTest(unittest.TestCase):
    def test_all_four_ways_of_a_line_at_two_crossings(self):
        self.assertEqual(curled(HOPF, 1, 0), (((0, 1, 2, 3), (3, 2, 4, 0), (5, 5, 1, 4)), 0))
        self.assertEqual(curled(HOPF, 1, 1), (((0, 1, 2, 3), (3, 2, 4, 0), (1, 5, 5, 4)), 0))
        self.assertEqual(curled(HOPF, 1, 2), (((0, 1, 2, 3), (3, 2, 4, 0), (5, 5, 4, 1)), 0))
        self.assertEqual(curled(HOPF, 1, 3), (((0, 1, 2, 3), (3, 2, 4, 0), (4, 5, 5, 1)), 0))

    def test_all_four_ways_of_a_line_at_one_crossing(self):
        self.assertEqual(curled(CROSSED_ONCE, 0, 0), (((0, 1, 2, 1), (3, 3, 0, 2)), 0))
        self.assertEqual(curled(CROSSED_ONCE, 0, 1), (((0, 1, 2, 1), (0, 3, 3, 2)), 0))
        self.assertEqual(curled(CROSSED_ONCE, 1, 2), (((0, 1, 0, 2), (3, 3, 2, 1)), 0))
        self.assertEqual(curled(CROSSED_ONCE, 1, 3), (((0, 1, 0, 2), (2, 3, 3, 1)), 0))

    def test_a_ring(self):
        self.assertEqual(curled(((), 1), 0, 0), (((0, 0, 1, 1),), 0))
        self.assertEqual(curled(((), 5), 0, 1), (((0, 1, 1, 0),), 4))
        self.assertEqual(curled(((), 1), 0, 2), (((0, 0, 1, 1),), 0))
        self.assertEqual(curled(((), 1), 0, 3), (((0, 1, 1, 0),), 0))
        self.assertEqual(curled((CROSSED_ONCE[0], 2), 2, 3), (((0, 1, 0, 1), (2, 3, 3, 2)), 1))

    def test_every_line_and_ring_of_many_sheets(self):
        for sheet in many_sheets():
            if len(sheet[0]) == 10:
                continue
            for line in range(2 * len(sheet[0]) + min(1, sheet[1])):
                for way in range(4):
                    self.assertEqual(curled(sheet, line, way), told_curl(sheet, line, way))

    def test_no_such_line_nor_ring(self):
        for sheet, line in ((HOPF, 4), (HOPF, 5), (HOPF, -1), (HOPF, -4), (EMPTY, 0), (((), 2), 1), (((), 2), -1),
                            ((HOPF[0], 1), 5), ((HOPF[0], 1), -1), (HOPF, 10 ** 50)):
            for way in range(4):
                with self.subTest(sheet=sheet, line=line):
                    with self.assertRaises(NoPlace):
                        curled(sheet, line, way)

    def test_ten_crossings(self):
        self.assertEqual(len(curled(chain(9), 17, 0)[0]), 10)
        self.assertEqual(len(curled(chain(9, 1), 18, 0)[0]), 10)
        for sheet, line in ((chain(10), 0), (chain(10), 19), (chain(10, 1), 20)):
            with self.assertRaises(Crowded):
                curled(sheet, line, 1)

    def test_more_than_ten_crossings(self):
        with self.assertRaises(Crowded):
            curled(chain(11), 0, 0)
        self.assertEqual(uncurled(chain(12), 5), chain(11, 1))

    def test_no_place_ahead_of_crowded(self):
        for sheet, line in ((chain(10), 20), (chain(10), -1), (chain(10, 1), 21)):
            with self.assertRaises(NoPlace):
                curled(sheet, line, 0)


class UncurledTest(unittest.TestCase):
    def test_a_curl_at_each_pair_of_ends(self):
        # The neighbour bears the two other lines of the crossing, which become one.
        self.assertEqual(uncurled((((0, 0, 1, 2), (1, 3, 2, 3)), 0), 0), (((0, 1, 0, 1),), 0))
        self.assertEqual(uncurled((((0, 1, 1, 2), (0, 3, 2, 3)), 0), 0), (((0, 1, 0, 1),), 0))
        self.assertEqual(uncurled((((0, 1, 2, 2), (0, 3, 1, 3)), 0), 0), (((0, 1, 0, 1),), 0))
        self.assertEqual(uncurled((((0, 1, 2, 0), (1, 3, 2, 3)), 0), 0), (((0, 1, 0, 1),), 0))

    def test_two_curls(self):
        self.assertEqual(uncurled((((0, 0, 1, 1),), 0), 0), ((), 1))
        self.assertEqual(uncurled((((0, 1, 1, 0),), 6), 0), ((), 7))
        self.assertEqual(uncurled(chain(3), 1), chain(2, 1))

    def test_the_others_stay_in_order(self):
        self.assertEqual(uncurled((((0, 1, 0, 2), (3, 3, 1, 2), (4, 5, 5, 4)), 0), 1),
                         (((0, 1, 0, 1), (2, 3, 3, 2)), 0))

    def test_many_sheets(self):
        for sheet in many_sheets():
            for at, crossing in enumerate(sheet[0]):
                pairs = [end for end in range(4) if crossing[end] == crossing[(end + 1) % 4]]
                if not pairs:
                    with self.assertRaises(NoMove):
                        uncurled(sheet, at)
                else:
                    bridge = ((at, (pairs[0] + 2) % 4), (at, (pairs[0] + 3) % 4))
                    self.assertEqual(uncurled(sheet, at), model.spliced(sheet, (at,), [bridge]))

    def test_no_curl(self):
        for sheet, at in ((HOPF, 0), (HOPF, 1), (TREFOIL, 2), (CROSSED_ONCE, 0)):
            with self.assertRaises(NoMove):
                uncurled(sheet, at)

    def test_no_such_crossing(self):
        for sheet, at in ((HOPF, 2), (HOPF, -1), (chain(2), -1), (chain(2), -2), (EMPTY, 0), (((), 4), 0)):
            with self.assertRaises(NoPlace):
                uncurled(sheet, at)

    def test_a_curl_put_in_comes_out_again(self):
        for sheet in many_sheets():
            if len(sheet[0]) == 10:
                continue
            for line in range(2 * len(sheet[0]) + min(1, sheet[1])):
                for way in range(4):
                    self.assertEqual(uncurled(curled(sheet, line, way), len(sheet[0])), sheet)


if __name__ == "__main__":
    unittest.main()
