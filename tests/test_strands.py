import unittest

from cordbook.sheets import mirrored
from cordbook.strands import rounds, strands, twist
from tests import model
from tests.samples import CROSSED_ONCE, EMPTY, FIGURE_EIGHT, HOPF, TREFOIL, chain, many_sheets


class RoundsTest(unittest.TestCase):
    def test_no_crossing(self):
        self.assertEqual(rounds(EMPTY), [])
        self.assertEqual(rounds(((), 4)), [])

    def test_one_strand(self):
        self.assertEqual(rounds(TREFOIL), [[0, 5, 3, 1, 4, 2]])
        self.assertEqual(rounds((((0, 0, 1, 1),), 0)), [[0, 1]])
        self.assertEqual(rounds((((0, 1, 1, 0),), 2)), [[0, 1]])

    def test_several_strands(self):
        self.assertEqual(rounds(HOPF), [[0, 2], [1, 3]])
        self.assertEqual(rounds(CROSSED_ONCE), [[0], [1]])
        self.assertEqual(rounds(chain(3)), [[0, 1], [2, 3], [4, 5]])

    def test_the_second_place_is_gone_into(self):
        # Line 0 stands at the ends 0 and 3 of different crossings; from its first place the walk would be told backwards.
        self.assertEqual(rounds((((0, 1, 1, 2), (2, 3, 3, 0)), 0)), [[0, 3, 2, 1]])

    def test_many_sheets(self):
        for sheet in many_sheets():
            self.assertEqual(rounds(sheet), model.rounds(sheet))

    def test_lists(self):
        told = rounds(HOPF)
        self.assertIs(type(told), list)
        self.assertEqual([type(lines) for lines in told], [list, list])


class StrandsTest(unittest.TestCase):
    def test_ordinary(self):
        for sheet, count in ((EMPTY, 0), (((), 7), 7), (TREFOIL, 1), (FIGURE_EIGHT, 1), (HOPF, 2), (CROSSED_ONCE, 2),
                             ((TREFOIL[0], 3), 4), ((HOPF[0], 100), 102), (chain(10, 1), 11)):
            with self.subTest(sheet):
                self.assertEqual(strands(sheet), count)

    def test_many_sheets(self):
        for sheet in many_sheets():
            self.assertEqual(strands(sheet), model.strand_count(sheet))


class TwistTest(unittest.TestCase):
    def test_no_crossing(self):
        self.assertEqual(twist(EMPTY), 0)
        self.assertEqual(twist(((), 5)), 0)

    def test_a_strand_that_crosses_itself(self):
        self.assertEqual(twist((((0, 0, 1, 1),), 0)), 1)
        self.assertEqual(twist((((0, 1, 1, 0),), 9)), -1)
        self.assertEqual(twist(TREFOIL), -3)
        self.assertEqual(twist(mirrored(TREFOIL)), 3)
        self.assertEqual(twist(FIGURE_EIGHT), 0)
        self.assertEqual(twist(chain(10)), 10)

    def test_crossings_of_two_strands_count_nothing(self):
        self.assertEqual(twist(HOPF), 0)
        self.assertEqual(twist(CROSSED_ONCE), 0)

    def test_both_kinds_together(self):
        self.assertEqual(twist((((0, 1, 2, 3), (3, 2, 4, 0), (5, 5, 1, 4)), 0)), 1)
        self.assertEqual(twist((((0, 1, 2, 3), (3, 2, 4, 0), (1, 5, 5, 4)), 0)), -1)

    def test_many_sheets(self):
        for sheet in many_sheets():
            self.assertEqual(twist(sheet), model.twist(sheet))


if __name__ == "__main__":
    unittest.main()
