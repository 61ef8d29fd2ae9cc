import itertools
import unittest

from cordbook.errors import NoMove, NoPlace
from cordbook.moves import slid
from tests import model
from tests.samples import EMPTY, HOPF, TREFOIL, chain, small_sheets

CHOICES = list(itertools.product((1, 3), (0, 2), (1, 3), (0, 2)))
OUTER = ("c-p", "c-i", "g-j", "g-r", "h-q", "h-o")


def opposite(end):
    return (end + 2) % 4


def crossing(ends):
    return [ends[end] for end in range(4)]


def lying(step, p, j, q):
    """c, g and h of point 11, each outer end with a name of its own."""
    i, r, o = (p + step) % 4, (j + step) % 4, (q + step) % 4
    return (crossing({p: "m", i: "t", opposite(p): "c-p", opposite(i): "c-i"}),
            crossing({j: "t", r: "b", opposite(j): "g-j", opposite(r): "g-r"}),
            crossing({q: "b", o: "m", opposite(q): "h-q", opposite(o): "h-o"}))


def lying_then(step, p, j, q):
    """The same three as the table of point 11 tells them."""
    i, r, o = (p + step) % 4, (j + step) % 4, (q + step) % 4
    return (crossing({opposite(i): "t", i: "g-j", opposite(p): "m", p: "h-o"}),
            crossing({j: "c-i", opposite(j): "t", opposite(r): "b", r: "h-q"}),
            crossing({o: "c-p", opposite(o): "m", q: "g-r", opposite(q): "b"}))


def outer_pairings(names):
    if not names:
        return [{}]
    found = []
    for k in range(1, len(names)):
        for rest in outer_pairings(names[1:k] + names[k + 1:]):
            found.append({**rest, names[0]: names[0], names[k]: names[0]})
    return found


def named(rows, names):
    return [[names.get(name, name) for name in row] for row in rows]


class SlidTest(unittest.TestCase):
    def test_one_by_hand(self):
        sheet = (((0, 1, 2, 3), (4, 1, 5, 6), (5, 0, 7, 8), (2, 3, 4, 6), (7, 8, 9, 9)), 1)
        self.assertEqual(slid(sheet, 0, 1, 2),
                         (((0, 1, 2, 3), (4, 5, 6, 3), (7, 8, 4, 2), (8, 5, 7, 1), (6, 0, 9, 9)), 1))

    def test_both_steps_and_all_ends_with_the_crossings_in_every_order(self):
        others = [["c-p", "g-j", "h-o", "x"], ["c-i", "x", "g-r", "h-q"]]
        for choice in CHOICES:
            for order in itertools.permutations(range(5)):
                with self.subTest(choice=choice, order=order):
                    ahead = list(lying(*choice)) + others
                    behind = list(lying_then(*choice)) + others
                    sheet = model.told([ahead[k] for k in order], 2)
                    expected = model.told([behind[k] for k in order], 2)
                    self.assertEqual(slid(sheet, order.index(0), order.index(1), order.index(2)), expected)

    def test_lines_at_more_than_one_of_the_ends_that_change(self):
        for choice in CHOICES:
            for names in outer_pairings(OUTER):
                with self.subTest(choice=choice, names=names):
                    sheet = model.told(named(lying(*choice), names), 0)
                    expected = model.told(named(lying_then(*choice), names), 0)
                    self.assertEqual(slid(sheet, 0, 1, 2), expected)

    def test_slid_twice_comes_back(self):
        others = [["c-p", "g-j", "h-o", "x"], ["c-i", "x", "g-r", "h-q"]]
        for choice in CHOICES:
            sheet = model.told(list(lying(*choice)) + others, 0)
            self.assertEqual(slid(slid(sheet, 0, 1, 2), 0, 1, 2), sheet)

    def test_only_the_three_in_their_parts(self):
        others = [["c-p", "g-j", "h-o", "x"], ["c-i", "x", "g-r", "h-q"]]
        for choice in CHOICES:
            sheet = model.told(list(lying(*choice)) + others, 0)
            for told in itertools.permutations(range(3)):
                if told != (0, 1, 2):
                    with self.subTest(choice=choice, told=told):
                        with self.assertRaises(NoMove):
                            slid(sheet, *told)

    def test_which_sheets_of_three_lie_so(self):
        fitting = {model.told(named(lying(*choice), names), 0)
                   for choice in CHOICES for names in outer_pairings(OUTER)}
        for sheet in model.all_sheets(3):
            if sheet in fitting:
                slid(sheet, 0, 1, 2)
            else:
                with self.assertRaises(NoMove):
                    slid(sheet, 0, 1, 2)

    def test_two_the_same(self):
        sheet = (((0, 1, 2, 3), (4, 1, 5, 6), (5, 0, 7, 8), (2, 3, 4, 6), (7, 8, 9, 9)), 1)
        for told in ((0, 0, 2), (0, 1, 0), (0, 1, 1), (2, 2, 2)):
            with self.assertRaises(NoMove):
                slid(sheet, *told)

    def test_two_the_same_whose_lines_would_fit(self):
        for sheet, told in (((((0, 1, 2, 3), (2, 0, 1, 3)), 0), (0, 0, 1)),
                            ((((0, 1, 2, 0), (3, 1, 2, 3)), 0), (0, 1, 0)),
                            ((((0, 1, 2, 3), (2, 1, 3, 0)), 0), (0, 1, 1))):
            with self.subTest(told):
                with self.assertRaises(NoMove):
                    slid(sheet, *told)
        for sheet in small_sheets():
            for told in itertools.product(range(len(sheet[0])), repeat=3):
                with self.assertRaises(NoMove):
                    slid(sheet, *told)

    def test_they_do_not_lie_so(self):
        for told in itertools.permutations(range(3)):
            for sheet in (TREFOIL, chain(3)):
                with self.assertRaises(NoMove):
                    slid(sheet, *told)

    def test_no_such_crossing(self):
        sheet = (((0, 1, 2, 3), (4, 1, 5, 6), (5, 0, 7, 8), (2, 3, 4, 6), (7, 8, 9, 9)), 1)
        for told in ((0, 1, 5), (5, 1, 2), (0, 5, 2), (-5, 1, 2), (0, -4, 2), (0, 1, -3), (5, 5, 5), (0, 0, -1),
                     (0, 1, 10 ** 30)):
            with self.subTest(told):
                with self.assertRaises(NoPlace):
                    slid(sheet, *told)
        for sheet, told in ((EMPTY, (0, 0, 0)), (HOPF, (0, 1, 2)), (HOPF, (0, 0, 2))):
            with self.assertRaises(NoPlace):
                slid(sheet, *told)


if __name__ == "__main__":
    unittest.main()
