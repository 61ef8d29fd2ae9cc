"""Tidying: curls are taken out and crossings taken apart as long as there are any. Point 17 of the document."""

from cordbook.errors import NoMove
from cordbook.moves import taken_apart, uncurled


def tidied(sheet):
    deeds = []
    step = next_step(sheet)
    while step is not None:
        sheet = step[0]
        deeds.append(step[1])
        step = next_step(sheet)
    return (sheet, deeds)


# The sheet behind the first deed that can be done, and the deed; None where none can.
def next_step(sheet):
    for deed in possible_deeds(len(sheet[0])):
        left = outcome(sheet, deed)
        if left is not None:
            return (left, deed)
    return None


# In the order in which they are tried: every curl ahead of every pair.
def possible_deeds(count):
    deeds = [("uncurl", at) for at in range(count)]
    for one in range(count):
        deeds.extend([("apart", one, other) for other in range(one + 1, count)])
    return deeds


def outcome(sheet, deed):
    try:
        if deed[0] == "uncurl":
            return uncurled(sheet, deed[1])
        return taken_apart(sheet, deed[1], deed[2])
    except NoMove:
        return None
