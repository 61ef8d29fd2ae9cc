"""Sheets: crossings whose ends hang together, and rings.

A sheet is a tuple (crossings, rings). Points 2 to 6 of the document.
"""

from cordbook.errors import Crowded, NoPlace, NoSheet

LIMIT = 10

# The pairs of ends that each way of splitting joins, in their order.
SPLITS = (((0, 1), (2, 3)), ((0, 3), (1, 2)))


def drawn(crossings, rings):
    if len(crossings) > LIMIT:
        raise Crowded("more crossings than a sheet holds")
    standings = {}
    for crossing in crossings:
        for name in crossing:
            standings[name] = standings.get(name, 0) + 1
    if any([times != 2 for times in standings.values()]):
        raise NoSheet("a name does not stand at just two places")
    return numbered(crossings, rings)


def ends(sheet, line):
    places = []
    for at, crossing in enumerate(sheet[0]):
        for end in range(4):
            if crossing[end] == line:
                places.append((at, end))
    if not places:
        raise NoPlace("no such line")
    return tuple(places)


def split(sheet, at, way):
    crossing = crossing_at(sheet, at)
    pairs = [(crossing[end], crossing[other]) for end, other in SPLITS[way]]
    return joined(without(sheet[0], (at,)), sheet[1], pairs)


def mirrored(sheet):
    return numbered([turned(crossing, 1) for crossing in sheet[0]], sheet[1])


def beside(one, other):
    if len(one[0]) + len(other[0]) > LIMIT:
        raise Crowded("more crossings together than a sheet holds")
    past = 2 * len(one[0])
    moved = [tuple([line + past for line in crossing]) for crossing in other[0]]
    return numbered(list(one[0]) + moved, one[1] + other[1])


# A list index below nought would count from behind, so the bounds are asked first.
def crossing_at(sheet, at):
    if at < 0 or at >= len(sheet[0]):
        raise NoPlace("no such crossing")
    return sheet[0][at]


# The crossing read from the end that lies so many on.
def turned(crossing, by):
    return crossing[by:] + crossing[:by]


def line_at(crossings, place):
    return crossings[place[0]][place[1]]


def opposite(place):
    return (place[0], (place[1] + 2) % 4)


# The limit is no matter here: only those calls refuse a crowded sheet that the document names.
def numbered(crossings, rings):
    numbers = {}
    told = []
    for crossing in crossings:
        for line in crossing:
            if line not in numbers:
                numbers[line] = len(numbers)
        told.append(tuple([numbers[line] for line in crossing]))
    return (tuple(told), rings)


def without(crossings, gone):
    return [crossing for at, crossing in enumerate(crossings) if at not in gone]


# The crossings are those that stay. A pair that waits is renamed too, since it is joined
# as the lines are by then: an earlier pair may have made its two lines one.
def joined(crossings, rings, pairs):
    left = list(crossings)
    waiting = list(pairs)
    while waiting:
        kept = waiting[0][0]
        lost = waiting[0][1]
        if kept == lost:
            rings = rings + 1
        left = renamed(left, lost, kept)
        waiting = renamed(waiting[1:], lost, kept)
    return numbered(left, rings)


def renamed(rows, old, new):
    return [tuple([new if line == old else line for line in row]) for row in rows]
