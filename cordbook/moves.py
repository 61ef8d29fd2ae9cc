"""The five moves, which leave cords what they are. Points 7 to 11 of the document."""

from cordbook.errors import Crowded, NoMove, NoPlace
from cordbook.sheets import LIMIT, crossing_at, ends, joined, line_at, numbered, opposite, turned, without

# By how much the first and the second crossing are turned in each pair of readings.
READINGS = ((0, 0), (0, 2), (2, 0), (2, 2))


def curled(sheet, line, way):
    crossings = list(sheet[0])
    fresh = 2 * len(crossings)
    into_ring = line == fresh and sheet[1] > 0
    if not into_ring and (line < 0 or line >= fresh):
        raise NoPlace("no such line, nor a ring for it")
    if len(crossings) >= LIMIT:
        raise Crowded("no room for a curl")
    if into_ring:
        return numbered(crossings + [curl(fresh, fresh, fresh + 1, way)], sheet[1] - 1)
    opened = relined(crossings, ends(sheet, line)[1], fresh)
    return numbered(opened + [curl(line, fresh, fresh + 1, way)], sheet[1])


# Ways 2 and 3 are ways 0 and 1 with the two sides of the line exchanged.
def curl(kept, new, loop, way):
    if way >= 2:
        return curl(new, kept, loop, way - 2)
    if way == 0:
        return (loop, loop, kept, new)
    return (kept, loop, loop, new)


def uncurled(sheet, at):
    crossing = crossing_at(sheet, at)
    for end in range(4):
        if crossing[end] == crossing[(end + 1) % 4]:
            others = (crossing[(end + 2) % 4], crossing[(end + 3) % 4])
            return joined(without(sheet[0], (at,)), sheet[1], [others])
    raise NoMove("no curl at this crossing")


def laid_over(sheet, upper, lower, way):
    upper_place = ends(sheet, upper)[1]
    lower_place = ends(sheet, lower)[1]
    if upper == lower:
        raise NoMove("a line is not laid over itself")
    if len(sheet[0]) > LIMIT - 2:
        raise Crowded("no room for two crossings")
    fresh = 2 * len(sheet[0])
    opened = relined(relined(sheet[0], upper_place, fresh), lower_place, fresh + 1)
    if way % 2 == 0:
        sides = (upper, fresh)
    else:
        sides = (fresh, upper)
    return numbered(opened + overlay(sides, (lower, fresh + 1), fresh + 2, way), sheet[1])


# The way's parity has chosen already which side of the upper line comes first.
def overlay(upper, lower, fresh, way):
    bow = fresh
    under = fresh + 1
    if way < 2:
        return [(lower[0], bow, under, upper[0]), (under, bow, lower[1], upper[1])]
    return [(lower[0], upper[0], under, bow), (under, upper[1], lower[1], bow)]


def taken_apart(sheet, one, other):
    first = crossing_at(sheet, one)
    second = crossing_at(sheet, other)
    if one == other:
        raise NoMove("a crossing is not taken apart from itself")
    for turns in READINGS:
        pairs = loosened(turned(first, turns[0]), turned(second, turns[1]))
        if pairs is not None:
            return joined(without(sheet[0], (one, other)), sheet[1], pairs)
    raise NoMove("these crossings do not lie so")


# The pairs of lines to join, or None where the two do not lie so in these readings.
def loosened(first, second):
    if first[2] != second[0]:
        return None
    for end in (1, 3):
        if first[end] == second[end]:
            return [(first[0], second[2]), (first[4 - end], second[4 - end])]
    return None


def slid(sheet, first, second, third):
    told = [crossing_at(sheet, at) for at in (first, second, third)]
    if first == second or first == third or second == third:
        raise NoMove("two of the three crossings are one")
    for step in (1, 3):
        for low in (0, 2):
            found = slide_ends(told, low, step)
            if found is not None:
                return numbered(passed(sheet[0], (first, second, third), found), sheet[1])
    raise NoMove("these crossings do not lie so")


# The ends (p, i), (j, r), (q, o) of point 11 at c, g and h, or None where they do not lie so.
# Between two crossings a line has used up its two places, so j and q are never a choice.
def slide_ends(told, low, step):
    over = (low + step) % 4
    into = end_with(told[1], (1, 3), told[0][over])
    if into is None:
        return None
    beneath = (into + step) % 4
    last = end_with(told[2], (0, 2), told[1][beneath])
    if last is None:
        return None
    closing = (last + step) % 4
    if told[2][closing] != told[0][low]:
        return None
    return ((low, over), (into, beneath), (last, closing))


def end_with(crossing, choices, line):
    for end in choices:
        if crossing[end] == line:
            return end
    return None


# Along each of the three cords its two crossings change places. So a cord's inner line comes
# to the far ends, and each near end takes what stood at the far end of the cord's other crossing.
def passed(crossings, numbers, found):
    cords = (
        ((numbers[0], found[0][1]), (numbers[1], found[1][0])),
        ((numbers[0], found[0][0]), (numbers[2], found[2][1])),
        ((numbers[1], found[1][1]), (numbers[2], found[2][0])),
    )
    left = list(crossings)
    for one, other in cords:
        inner = line_at(crossings, one)
        left = relined(left, one, line_at(crossings, opposite(other)))
        left = relined(left, other, line_at(crossings, opposite(one)))
        left = relined(left, opposite(one), inner)
        left = relined(left, opposite(other), inner)
    return left


def relined(crossings, place, line):
    left = list(crossings)
    crossing = left[place[0]]
    left[place[0]] = crossing[:place[1]] + (line,) + crossing[place[1] + 1:]
    return left
