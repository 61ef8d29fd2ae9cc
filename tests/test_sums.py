import math
import time
import unittest

from cordbook.sheets import beside, mirrored, split
from cordbook.strands import twist
from cordbook.sums import straight, total
from tests import model
from tests.samples import CROSSED_ONCE, EMPTY, FIGURE_EIGHT, HOPF, TREFOIL, chain, many_sheets, twisted

SUMS = (total, straight)


def told(powers):
    return sorted((power, number) for power, number in powers.items() if number)


def rings_alone(rings):
    """(-A^2 - A^-2) to that power, by the binomial numbers."""
    sign = -1 if rings % 2 else 1
    return [(4 * k - 2 * rings, sign * math.comb(rings, k)) for k in range(rings + 1)]


class RingsTest(unittest.TestCase):
    def test_no_crossing_and_no_ring(self):
        for each in SUMS:
            self.assertEqual(each(EMPTY), [(0, 1)])

    def test_few_rings(self):
        for each in SUMS:
            self.assertEqual(each(((), 1)), [(-2, -1), (2, -1)])
            self.assertEqual(each(((), 2)), [(-4, 1), (0, 2), (4, 1)])
            self.assertEqual(each(((), 3)), [(-6, -1), (-2, -3), (2, -3), (6, -1)])

    def test_many_rings(self):
        for each in SUMS:
            for rings in (7, 50, 99, 100, 101, 150):
                with self.subTest(rings):
                    self.assertEqual(each(((), rings)), rings_alone(rings))

    def test_rings_beside_crossings(self):
        for rings in (1, 2, 100):
            expected = model.times(dict(total(TREFOIL)), dict(rings_alone(rings)))
            self.assertEqual(total((TREFOIL[0], rings)), told(expected))


class TotalTest(unittest.TestCase):
    def test_one_crossing(self):
        # Of A^5 + 2A + A^-3 and -A - A^-3 together the power -3 falls away.
        self.assertEqual(total((((0, 0, 1, 1),), 0)), [(1, 1), (5, 1)])
        self.assertEqual(total((((0, 1, 1, 0),), 0)), [(-5, 1), (-1, 1)])
        self.assertEqual(total(CROSSED_ONCE), [(-3, -1), (-1, -1), (1, -1), (3, -1)])
        self.assertEqual(total((((0, 0, 1, 1),), 1)), [(-1, -1), (3, -2), (7, -1)])

    def test_one_curl_at_a_crossing(self):
        self.assertEqual(total((((0, 0, 1, 2), (1, 3, 2, 3)), 0)), [(0, 1), (2, 1), (4, 1), (6, 1)])
        self.assertEqual(total((((0, 1, 1, 2), (0, 3, 2, 3)), 0)), [(-6, 1), (-4, 1), (-2, 1), (0, 1)])

    def test_well_known_cords(self):
        self.assertEqual(total(TREFOIL), [(-7, 1), (-3, 1), (1, 1), (9, -1)])
        self.assertEqual(total(mirrored(TREFOIL)), [(-9, -1), (-1, 1), (3, 1), (7, 1)])
        self.assertEqual(total(HOPF), [(-6, 1), (-2, 1), (2, 1), (6, 1)])
        self.assertEqual(total(FIGURE_EIGHT), [(-10, -1), (10, -1)])

    def test_crossing_nought_split_both_ways(self):
        for sheet in many_sheets():
            if sheet[0]:
                found = {}
                for way, shift in ((0, 1), (1, -1)):
                    for power, number in total(split(sheet, 0, way)):
                        found[power + shift] = found.get(power + shift, 0) + number
                self.assertEqual(total(sheet), told(found))

    def test_many_sheets_by_all_splittings_at_once(self):
        for sheet in many_sheets() + list(model.all_sheets(3, 1))[::7]:
            self.assertEqual(total(sheet), told(model.total(sheet)))

    def test_two_sheets_beside_each_other(self):
        expected = model.times(dict(total(TREFOIL)), dict(total(CROSSED_ONCE)))
        self.assertEqual(total(beside(TREFOIL, CROSSED_ONCE)), told(expected))


class StraightTest(unittest.TestCase):
    def test_one_crossing(self):
        for crossing in ((0, 0, 1, 1), (0, 1, 1, 0)):
            self.assertEqual(straight(((crossing,), 0)), [(-2, -1), (2, -1)])
            self.assertEqual(straight(((crossing,), 1)), [(-4, 1), (0, 2), (4, 1)])
        self.assertEqual(straight(CROSSED_ONCE), total(CROSSED_ONCE))

    def test_twists_even_and_odd_below_nought_and_above(self):
        self.assertEqual(straight(TREFOIL), [(2, -1), (6, -1), (10, -1), (18, 1)])
        self.assertEqual(straight(mirrored(TREFOIL)), [(-18, 1), (-10, -1), (-6, -1), (-2, -1)])
        for n in range(1, 5):
            self.assertEqual(twist(chain(n)), n)
            self.assertEqual(straight(chain(n)), rings_alone(n))
            self.assertEqual(twist(mirrored(chain(n))), -n)
            self.assertEqual(straight(mirrored(chain(n))), rings_alone(n))

    def test_twist_nought(self):
        for sheet in (HOPF, FIGURE_EIGHT):
            self.assertEqual(straight(sheet), total(sheet))

    def test_many_sheets(self):
        seen = set()
        for sheet in many_sheets():
            turns = model.twist(sheet)
            seen.add(max(-4, min(4, turns)))
            self.assertEqual(straight(sheet), model.straight(sheet))
        self.assertEqual(seen, set(range(-4, 5)))


class FormTest(unittest.TestCase):
    def test_lists_of_tuples_by_rising_powers_without_nought(self):
        for each in SUMS:
            for sheet in many_sheets():
                found = each(sheet)
                self.assertIs(type(found), list)
                self.assertTrue(all(type(row) is tuple and len(row) == 2 for row in found))
                powers = [power for power, number in found]
                self.assertEqual(powers, sorted(set(powers)))
                self.assertTrue(all(number != 0 for power, number in found))

    def test_each_answer_is_a_list_of_its_own(self):
        for each in SUMS:
            for sheet in (EMPTY, TREFOIL):
                expected = list(each(sheet))
                each(sheet).append("more")
                self.assertEqual(each(sheet), expected)


class SizeTest(unittest.TestCase):
    def test_ten_crossings_in_reasonable_time(self):
        sheets = [chain(10, 100), twisted(10)] + [(sheet[0], 100) for sheet in model.some_sheets(10, 5, 77)]
        start = time.process_time()
        for sheet in sheets:
            for each in SUMS:
                each(sheet)
        self.assertLess(time.process_time() - start, 10)
        self.assertEqual(straight(chain(10, 100)), rings_alone(110))

    def test_more_than_ten_crossings(self):
        self.assertEqual(straight(chain(12, 1)), rings_alone(13))
        self.assertEqual(total(twisted(11)), told(model.total(twisted(11))))


if __name__ == "__main__":
    unittest.main()
