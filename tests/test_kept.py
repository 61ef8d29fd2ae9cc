"""Point 16: the straight total, the strands and the colourings, as the program tells them, stay by every move."""

import itertools
import random
import unittest

from cordbook.colours import colourings
from cordbook.errors import NoMove
from cordbook.moves import curled, laid_over, slid, taken_apart, uncurled
from cordbook.strands import strands
from cordbook.sums import straight
from tests import model
from tests.samples import FIGURE_EIGHT, HOPF, TREFOIL, small_sheets
from tests.test_slides import CHOICES, lying


PRIMES = (2, 3, 5, 7, 11, 13)


def kept(sheet):
    """All that the moves leave as it was."""
    return (straight(sheet), strands(sheet), [colourings(sheet, prime) for prime in PRIMES])


def tried(move, *told):
    """The one sheet that comes of a move, or none where it is refused."""
    try:
        return [move(*told)]
    except NoMove:
        return []


def larger_sheets():
    return [TREFOIL, FIGURE_EIGHT] + [sheet for n in (3, 4, 5) for sheet in model.some_sheets(n, 4, 50 + n)]


def crowded_sheets():
    """Sheets of up to ten crossings, each with a curl or a pair that comes apart."""
    found = []
    for n in (5, 8):
        for sheet in model.some_sheets(n, 6, 90 + n):
            found += [laid_over(sheet, 1, n, way) for way in range(4)]
            found += [curled(sheet, n, way) for way in range(4)]
    return found


def hung_together(rows, more, seed):
    """The sheet of these crossings and some more, where each end that hangs loose is wired by lot."""
    names = [name for row in rows for name in row]
    rows = [list(row) for row in rows] + [[None] * 4 for _ in range(more)]
    loose = [(at, end) for at, end in model.places(rows) if names.count(rows[at][end]) != 2]
    random.Random(seed).shuffle(loose)
    for k in range(0, len(loose), 2):
        for at, end in loose[k:k + 2]:
            rows[at][end] = k
    return model.told(rows, 1)


class ModelTest(unittest.TestCase):
    """That the tests count right is seen from cords whose numbers are well known."""

    def test_straight_totals(self):
        self.assertEqual(model.straight(((), 0)), [(0, 1)])
        self.assertEqual(model.straight(((), 1)), [(-2, -1), (2, -1)])
        self.assertEqual(model.straight((((0, 0, 1, 1),), 0)), [(-2, -1), (2, -1)])
        self.assertEqual(model.straight(TREFOIL), [(2, -1), (6, -1), (10, -1), (18, 1)])
        self.assertEqual(model.straight(FIGURE_EIGHT), [(-10, -1), (10, -1)])
        self.assertEqual(model.straight(HOPF), [(-6, 1), (-2, 1), (2, 1), (6, 1)])

    def test_colourings(self):
        self.assertEqual([model.colourings(TREFOIL, prime) for prime in (2, 3, 5, 7)], [2, 9, 5, 7])
        self.assertEqual([model.colourings(FIGURE_EIGHT, prime) for prime in (2, 3, 5, 7)], [2, 3, 25, 7])
        self.assertEqual([model.colourings(HOPF, prime) for prime in (2, 3)], [4, 3])
        self.assertEqual(model.colourings(((), 3), 5), 125)

    def test_colourings_by_trying_all(self):
        for sheet in small_sheets():
            for prime in (2, 3):
                width = 2 * len(sheet[0])
                count = 0
                for colours in itertools.product(range(prime), repeat=width):
                    count += all(colours[b] == colours[d] and (2 * colours[b] - colours[a] - colours[c]) % prime == 0
                                 for a, b, c, d in sheet[0])
                self.assertEqual(model.colourings(sheet, prime), count * prime ** sheet[1])


class KeptTest(unittest.TestCase):
    def check(self, before, sheets):
        expected = kept(before)
        for sheet in sheets:
            self.assertEqual(kept(sheet), expected, (before, sheet))
        return len(sheets)

    def test_the_tests_count_the_same(self):
        for sheet in small_sheets() + larger_sheets():
            self.assertEqual(kept(sheet), model.kept(sheet))

    def test_curled(self):
        for sheet in small_sheets() + larger_sheets():
            lines = range(2 * len(sheet[0]) + min(1, sheet[1]))
            self.check(sheet, [curled(sheet, line, way) for line in lines for way in range(4)])

    def test_laid_over(self):
        for sheet in small_sheets() + larger_sheets():
            lines = range(2 * len(sheet[0]))
            if len(sheet[0]) > 3:
                lines = lines[::2]
            self.check(sheet, [laid_over(sheet, upper, lower, way) for upper in lines for lower in lines
                               if upper != lower for way in range(4)])

    def test_uncurled_and_taken_apart(self):
        curls = 0
        apart = 0
        for sheet in small_sheets() + list(model.all_sheets(3))[::4] + crowded_sheets():
            numbers = range(len(sheet[0]))
            curls += self.check(sheet, [new for at in numbers for new in tried(uncurled, sheet, at)])
            apart += self.check(sheet, [new for one in numbers for other in numbers
                                        for new in tried(taken_apart, sheet, one, other)])
        self.assertGreater(curls, 500)
        self.assertGreater(apart, 400)

    def test_slid(self):
        slides = 0
        for sheet in model.all_sheets(3, 1):
            new = tried(slid, sheet, 0, 1, 2)
            if new:
                slides += self.check(sheet, new)
        self.assertGreater(slides, 200)

    def test_slid_among_other_crossings(self):
        for choice in CHOICES:
            for more in (1, 2, 3):
                sheet = hung_together(lying(*choice), more, more)
                self.check(sheet, [slid(sheet, 0, 1, 2)])

    def test_ten_crossings(self):
        for sheet in model.some_sheets(9, 3, 19):
            self.check(sheet, [curled(sheet, line, way) for line in (0, 7, 17) for way in range(4)])
        for sheet in model.some_sheets(8, 3, 18):
            self.check(sheet, [laid_over(sheet, upper, 15 - upper, way) for upper in (0, 9) for way in range(4)])
        for choice in CHOICES:
            sheet = hung_together(lying(*choice), 7, 5)
            self.check(sheet, [slid(sheet, 0, 1, 2)])

    def test_a_hundred_rings(self):
        sheet = (TREFOIL[0], 100)
        self.check(sheet, [curled(sheet, line, way) for line in (2, 6) for way in range(4)])
        self.check(((), 100), [curled(((), 100), 0, way) for way in range(4)])


if __name__ == "__main__":
    unittest.main()
