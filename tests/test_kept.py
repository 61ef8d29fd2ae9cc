"""Point 16: the straight total, the strands and the colourings, as tests.model counts them, stay by every move."""

import itertools
import random
import unittest

from cordbook.errors import NoMove
from cordbook.moves import curled, laid_over, slid, taken_apart, uncurled
from cordbook.strands import strands
from tests import model
from tests.samples import FIGURE_EIGHT, HOPF, TREFOIL, small_sheets
from tests.test_slides import CHOICES, lying


def tried(move, *told):
    """The one sheet that comes of a move, or none where it is refused."""
    try:
        return [move(*told)]
    except NoMove:
        return []


def larger_sheets():
    return [TREFOIL, FIGURE_EIGHT] + [sheet for n in (3, 4, 5) for sheet in model.some_sheets(n, 4, 50 + n)]


def hung_together(rows, more, seed):
    """The sheet of these crossings and some more, where each end that hangs loose is wired by lot."""
    names = [name for row in rows for name in row]
    rows = [list(row) for row in rows] + [[None] * 4 for _ in range(more)]
    loose = [(at, end) for at, end in model.places(rows) if names.count(rows[at][end]) != 2]
    random.Random(seed).shuffle(loose)
    for k in range(0, len(loose), 2):
        for at, end in loose[k:k + 2]:
            rows[at][end] = k
    return model.told(rows, 1)


class ModelTest(unittest.TestCase):
    """That the tests count right is seen from cords whose numbers are well known."""

    def test_straight_totals(self):
        self.assertEqual(model.straight(((), 0)), [(0, 1)])
        self.assertEqual(model.straight(((), 1)), [(-2, -1), (2, -1)])
        self.assertEqual(model.straight((((0, 0, 1, 1),), 0)), [(-2, -1), (2, -1)])
        self.assertEqual(model.straight(TREFOIL), [(2, -1), (6, -1), (10, -1), (18, 1)])
        self.assertEqual(model.straight(FIGURE_EIGHT), [(-10, -1), (10, -1)])
        self.assertEqual(model.straight(HOPF), [(-6, 1), (-2, 1), (2, 1), (6, 1)])

    def test_colourings(self):
        self.assertEqual([model.colourings(TREFOIL, prime) for prime in (2, 3, 5, 7)], [2, 9, 5, 7])
        self.assertEqual([model.colourings(FIGURE_EIGHT, prime) for prime in (2, 3, 5, 7)], [2, 3, 25, 7])
        self.assertEqual([model.colourings(HOPF, prime) for prime in (2, 3)], [4, 3])
        self.assertEqual(model.colourings(((), 3), 5), 125)

    def test_colourings_by_trying_all(self):
        for sheet in small_sheets():
            for prime in (2, 3):
                width = 2 * len(sheet[0])
                count = 0
                for colours in itertools.product(range(prime), repeat=width):
                    count += all(colours[b] == colours[d] and (2 * colours[b] - colours[a] - colours[c]) % prime == 0
                                 for a, b, c, d in sheet[0])
                self.assertEqual(model.colourings(sheet, prime), count * prime ** sheet[1])


class KeptTest(unittest.TestCase):
    def check(self, before, sheets):
        kept = model.kept(before)
        for sheet in sheets:
            self.assertEqual(model.kept(sheet), kept, (before, sheet))
            self.assertEqual(strands(sheet), strands(before), (before, sheet))
        return len(sheets)

    def test_curled(self):
        for sheet in small_sheets() + larger_sheets():
            lines = range(2 * len(sheet[0]) + min(1, sheet[1]))
            self.check(sheet, [curled(sheet, line, way) for line in lines for way in range(4)])

    def test_laid_over(self):
        for sheet in small_sheets() + larger_sheets():
            lines = range(2 * len(sheet[0]))
            if len(sheet[0]) > 3:
                lines = lines[::3]
            self.check(sheet, [laid_over(sheet, upper, lower, way) for upper in lines for lower in lines
                               if upper != lower for way in range(4)])

    def test_uncurled_and_taken_apart(self):
        curls = 0
        apart = 0
        for sheet in small_sheets() + list(model.all_sheets(3))[::9]:
            numbers = range(len(sheet[0]))
            curls += self.check(sheet, [new for at in numbers for new in tried(uncurled, sheet, at)])
            apart += self.check(sheet, [new for one in numbers for other in numbers
                                        for new in tried(taken_apart, sheet, one, other)])
        self.assertGreater(curls, 500)
        self.assertGreater(apart, 400)

    def test_slid(self):
        slides = 0
        for sheet in model.all_sheets(3, 1):
            new = tried(slid, sheet, 0, 1, 2)
            if new:
                slides += self.check(sheet, new)
        self.assertGreater(slides, 200)

    def test_slid_among_other_crossings(self):
        for choice in CHOICES:
            for more in (1, 2, 3):
                sheet = hung_together(lying(*choice), more, more)
                self.check(sheet, [slid(sheet, 0, 1, 2)])


if __name__ == "__main__":
    unittest.main()
