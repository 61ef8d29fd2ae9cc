"""The total of a sheet, a sum of powers of a letter A, and the straight total. Point 14 of the document.

A sum under way is a dict from each power to its number.
"""

from cordbook.sheets import split
from cordbook.strands import twist

# What splitting by way 0 and by way 1 adds to the power.
SHIFTS = (1, -1)

# The powers of the factor that stands for a ring; the number of each is -1.
RING_POWERS = (2, -2)


def total(sheet):
    powers = summed(sums_by_rings(split_up(sheet)))
    return [(power, powers[power]) for power in sorted(powers) if powers[power] != 0]


def straight(sheet):
    turns = twist(sheet)
    sign = 1 if turns % 2 == 0 else -1
    return [(power - 3 * turns, sign * number) for power, number in total(sheet)]


# Many ways of splitting come to the same sheet. They are counted together, or what
# is to be split would double with every crossing. A key is (sheet, power).
def split_up(sheet):
    counts = {(sheet, 0): 1}
    for crossing in sheet[0]:
        counts = split_once(counts)
    return counts


def split_once(counts):
    found = {}
    for state, number in counts.items():
        for way in (0, 1):
            add_to(found, (split(state[0], 0, way), state[1] + SHIFTS[way]), number)
    return found


def sums_by_rings(counts):
    found = {}
    for state, number in counts.items():
        add_to(found.setdefault(state[0][1], {}), state[1], number)
    return found


# From the most rings down, so that each ring is multiplied in once for all that have it.
def summed(by_rings):
    powers = {}
    for rings in range(max(list(by_rings)), -1, -1):
        powers = times_ring(powers)
        added = by_rings.get(rings, {})
        for power, number in added.items():
            add_to(powers, power, number)
    return powers


def times_ring(powers):
    found = {}
    for power, number in powers.items():
        for more in RING_POWERS:
            add_to(found, power + more, -number)
    return found


def add_to(counts, key, number):
    counts[key] = counts.get(key, 0) + number
