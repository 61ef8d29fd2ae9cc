"""Point 1: nothing that is handed in is changed, and the same is answered every time."""

import copy
import unittest

from cordbook.colours import colourings
from cordbook.moves import curled, laid_over, slid, taken_apart, uncurled
from cordbook.notes import read, shown
from cordbook.sheets import beside, drawn, ends, mirrored, split
from cordbook.strands import rounds, strands, twist
from cordbook.sums import straight, total
from cordbook.tidy import tidied
from tests.samples import FIGURE_EIGHT, TREFOIL, chain

SLIDING = (((0, 1, 2, 3), (3, 1, 4, 5), (4, 0, 5, 2)), 0)
LYING = (((0, 1, 2, 3), (2, 1, 0, 3)), 1)

CALLS = (
    (drawn, [(9, -4, 9, 2), (2, 5, -4, 5)], 1), (ends, TREFOIL, 3), (split, TREFOIL, 1, 0), (mirrored, TREFOIL),
    (beside, TREFOIL, FIGURE_EIGHT), (curled, TREFOIL, 2, 1), (uncurled, chain(3), 1), (laid_over, TREFOIL, 0, 4, 2),
    (taken_apart, LYING, 0, 1), (slid, SLIDING, 0, 1, 2), (rounds, FIGURE_EIGHT), (strands, TREFOIL), (twist, TREFOIL),
    (total, FIGURE_EIGHT), (straight, TREFOIL), (colourings, TREFOIL, 3), (tidied, chain(4)), (shown, TREFOIL),
    (read, "1 | 0 1 2 3 | 2 3 0 1"))


class UntouchedTest(unittest.TestCase):
    def test_what_is_handed_in_stays(self):
        for call in CALLS:
            with self.subTest(call[0].__name__):
                handed = copy.deepcopy(call[1:])
                call[0](*call[1:])
                self.assertEqual(call[1:], handed)

    def test_the_same_every_time_whatever_is_done_with_the_answer(self):
        for call in CALLS:
            with self.subTest(call[0].__name__):
                answer = call[0](*call[1:])
                expected = copy.deepcopy(answer)
                for value in (answer, answer[1] if call[0] is tidied else None):
                    if isinstance(value, list):
                        value.clear()
                self.assertEqual(call[0](*call[1:]), expected)


if __name__ == "__main__":
    unittest.main()
