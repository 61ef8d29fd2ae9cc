"""Strands: the cords of a sheet walked on till they close. Points 12 and 13 of the document."""

from cordbook.sheets import ends, line_at, opposite

# What it counts for the twist to come back by the end 0, 1, 2 or 3; who left by 2 never comes back by it.
TURNS = (0, -1, 0, 1)


def rounds(sheet):
    walked = {}
    told = []
    for line in range(2 * len(sheet[0])):
        if line not in walked:
            lines = round_of(sheet, line)
            told.append(lines)
            for each in lines:
                walked[each] = True
    return told


def strands(sheet):
    return len(rounds(sheet)) + sheet[1]


def twist(sheet):
    return sum([turn(sheet, at) for at in range(len(sheet[0]))])


def round_of(sheet, least):
    start = ends(sheet, least)[1]
    lines = [least]
    place = onward(sheet, start)
    while place != start:
        lines.append(line_at(sheet[0], place))
        place = onward(sheet, place)
    return lines


def turn(sheet, at):
    place = along(sheet, (at, 2))
    while place[0] != at:
        place = onward(sheet, place)
    return TURNS[place[1]]


# A walker is told by the place at which it goes into a crossing; this is the next such place.
def onward(sheet, place):
    return along(sheet, opposite(place))


# The other place of the line that stands at this one.
def along(sheet, place):
    places = ends(sheet, line_at(sheet[0], place))
    if places[0] == place:
        return places[1]
    return places[0]
