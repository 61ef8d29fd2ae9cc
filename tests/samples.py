"""Sheets that several tests use."""

from tests import model

EMPTY = ((), 0)
TREFOIL = (((0, 1, 2, 3), (4, 5, 1, 0), (3, 2, 5, 4)), 0)
FIGURE_EIGHT = (((0, 1, 2, 3), (4, 5, 3, 2), (5, 6, 7, 0), (1, 7, 6, 4)), 0)
HOPF = (((0, 1, 2, 3), (3, 2, 1, 0)), 0)
# Two cords that cross just once: it can't be drawn flat.
CROSSED_ONCE = (((0, 1, 0, 1),), 0)


def chain(n, rings=0):
    """n crossings beside each other, each with two curls."""
    return (tuple((2 * k, 2 * k, 2 * k + 1, 2 * k + 1) for k in range(n)), rings)


def twisted(n):
    """Two cords side by side, laid round each other n times and closed; 3 times are a trefoil."""
    rounds = [(2 * k, 2 * k + 1, (2 * k + 3) % (2 * n), (2 * k + 2) % (2 * n)) for k in range(n)]
    return model.told(rounds, 0)


def small_sheets():
    """All sheets of up to two crossings."""
    return [sheet for n in range(3) for rings in (0, 1, 3) for sheet in model.all_sheets(n, rings)]


def many_sheets():
    """The small ones, and others of up to ten crossings, flat and not flat, with and without rings."""
    found = small_sheets()
    for n in range(3, 11):
        found += model.some_sheets(n, 12, n)
    return found + [TREFOIL, FIGURE_EIGHT, HOPF]
