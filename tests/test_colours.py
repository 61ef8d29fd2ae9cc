import itertools
import time
import unittest

from cordbook.colours import colourings
from cordbook.sheets import beside, mirrored
from tests import model
from tests.samples import CROSSED_ONCE, EMPTY, FIGURE_EIGHT, HOPF, TREFOIL, chain, many_sheets, small_sheets, twisted

PRIMES = (2, 3, 5, 7, 11, 13)


def counted(sheet, prime):
    """How many of all ways of giving each line and each ring a number are colourings."""
    lines = 2 * len(sheet[0])
    count = 0
    for given in itertools.product(range(prime), repeat=lines + sheet[1]):
        count += all(given[b] == given[d] and (2 * given[b] - given[a] - given[c]) % prime == 0
                     for a, b, c, d in sheet[0])
    return count


class NoCrossingTest(unittest.TestCase):
    def test_no_ring(self):
        for prime in PRIMES:
            self.assertEqual(colourings(EMPTY, prime), 1)

    def test_rings_alone(self):
        for prime in PRIMES:
            for rings in (1, 2, 3, 17, 100, 101, 130):
                self.assertEqual(colourings(((), rings), prime), prime ** rings)


class ColouringsTest(unittest.TestCase):
    def test_one_crossing(self):
        for prime in PRIMES:
            self.assertEqual(colourings((((0, 0, 1, 1),), 0), prime), prime)
            self.assertEqual(colourings((((0, 1, 1, 0),), 0), prime), prime)
        # Twice the upper number less twice the lower one: by 2 both are free, else they are one.
        self.assertEqual([colourings(CROSSED_ONCE, prime) for prime in PRIMES], [4, 3, 5, 7, 11, 13])

    def test_well_known_cords(self):
        self.assertEqual([colourings(TREFOIL, prime) for prime in PRIMES], [2, 9, 5, 7, 11, 13])
        self.assertEqual([colourings(FIGURE_EIGHT, prime) for prime in PRIMES], [2, 3, 25, 7, 11, 13])
        self.assertEqual([colourings(HOPF, prime) for prime in PRIMES], [4, 3, 5, 7, 11, 13])

    def test_each_prime_has_a_cord_with_more_colourings(self):
        for n in (2, 3, 4, 5, 6, 7, 9, 10, 11, 13):
            for prime in PRIMES:
                with self.subTest(n=n, prime=prime):
                    self.assertEqual(colourings(twisted(n), prime), prime ** 2 if n % prime == 0 else prime)

    def test_upper_ends_make_lines_one(self):
        # The lines 1 and 3 are one by the upper cord of both crossings, so only one number is free beside them.
        self.assertEqual(colourings((((0, 1, 2, 3), (2, 3, 0, 1)), 0), 3), 9)
        # At the upper ends stand 0 and 1, then 2 and 3: all lines bear one number.
        self.assertEqual(colourings((((0, 1, 2, 0), (1, 2, 3, 3)), 0), 5), 5)
        # An upper cord that is one line, beneath it lines that hang on it.
        self.assertEqual(colourings((((0, 1, 2, 1), (0, 3, 2, 3)), 0), 7), 49)

    def test_with_rings(self):
        for prime in PRIMES:
            self.assertEqual(colourings((TREFOIL[0], 100), prime), colourings(TREFOIL, prime) * prime ** 100)

    def test_beside_and_mirrored(self):
        for prime in PRIMES:
            both = colourings(TREFOIL, prime) * colourings(FIGURE_EIGHT, prime)
            self.assertEqual(colourings(beside(TREFOIL, FIGURE_EIGHT), prime), both)
            self.assertEqual(colourings(mirrored(TREFOIL), prime), colourings(TREFOIL, prime))


class CountedTest(unittest.TestCase):
    def test_every_sheet_of_one_crossing_by_each_prime(self):
        for rings in (0, 1):
            for sheet in model.all_sheets(1, rings):
                for prime in PRIMES:
                    self.assertEqual(colourings(sheet, prime), counted(sheet, prime))

    def test_every_sheet_of_two_crossings(self):
        for sheet in model.all_sheets(2):
            for prime in (2, 3, 5, 7):
                self.assertEqual(colourings(sheet, prime), counted(sheet, prime))

    def test_sheets_of_three_crossings(self):
        for sheet in [TREFOIL] + list(model.all_sheets(3))[::400]:
            for prime in (2, 3, 5):
                self.assertEqual(colourings(sheet, prime), counted(sheet, prime))

    def test_rings_are_given_numbers_too(self):
        for sheet in small_sheets()[::9]:
            for prime in (2, 3):
                self.assertEqual(colourings(sheet, prime), counted(sheet, prime))

    def test_many_sheets_by_elimination(self):
        for sheet in many_sheets() + list(model.all_sheets(3))[::50]:
            for prime in PRIMES:
                self.assertEqual(colourings(sheet, prime), model.colourings(sheet, prime))


class SizeTest(unittest.TestCase):
    def test_ten_crossings_by_thirteen_in_reasonable_time(self):
        sheets = [chain(10, 100), twisted(10)] + model.some_sheets(10, 20, 31)
        start = time.process_time()
        for sheet in sheets:
            colourings(sheet, 13)
        self.assertLess(time.process_time() - start, 10)
        self.assertEqual(colourings(chain(10, 100), 13), 13 ** 110)

    def test_more_than_ten_crossings(self):
        self.assertEqual(colourings(chain(12, 3), 13), 13 ** 15)


if __name__ == "__main__":
    unittest.main()
