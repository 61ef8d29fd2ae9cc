"""Sheets written as texts and read from them. Point 18 of the document."""

from cordbook.errors import NoNote
from cordbook.sheets import drawn

BAR = " | "
MOST_FIGURES = 60


def shown(sheet):
    parts = [str(sheet[1])]
    for crossing in sheet[0]:
        parts.append(" ".join([str(line) for line in crossing]))
    return BAR.join(parts)


# All of the text is looked through before anything is drawn, since NoNote comes ahead of the other refusals.
def read(text):
    parts = text.split(BAR)
    rings = number_of(parts[0])
    return drawn([crossing_of(part) for part in parts[1:]], rings)


def crossing_of(part):
    names = tuple([number_of(word) for word in part.split(" ")])
    if len(names) != 4:
        raise NoNote("a crossing is not of four numbers")
    return names


def number_of(word):
    if not well_written(word):
        raise NoNote("not a number as a note has it")
    return int(word)


# The signs are asked one by one: isdigit would let other figures than these ten pass.
def well_written(word):
    if len(word) < 1 or len(word) > MOST_FIGURES:
        return False
    if word[0] == "0" and len(word) > 1:
        return False
    return all([sign in "0123456789" for sign in word])
