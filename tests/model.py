"""What the tests count by themselves: sheets as wires between places, sums over all splittings, colourings.

Nothing here draws on the package, so that its answers can be held against these.
"""

import random


def places(crossings):
    return [(at, end) for at in range(len(crossings)) for end in range(4)]


def wires(crossings):
    """Each place with the other place of its line."""
    standing = {}
    for at, end in places(crossings):
        standing.setdefault(crossings[at][end], []).append((at, end))
    wired = {}
    for one, other in standing.values():
        wired[one] = other
        wired[other] = one
    return wired


def sheet_of(order, wired, rings):
    """The sheet of the crossings in this order, whose places are so wired."""
    numbers = {}
    crossings = []
    for at in order:
        row = []
        for end in range(4):
            key = min((at, end), wired[(at, end)])
            row.append(numbers.setdefault(key, len(numbers)))
        crossings.append(tuple(row))
    return (tuple(crossings), rings)


def spliced(sheet, gone, bridges):
    """The sheet without the crossings gone, wires bridged between the given pairs of places there."""
    crossings, rings = sheet
    wired = wires(crossings)
    bridge = {}
    for one, other in bridges:
        bridge[one] = other
        bridge[other] = one
    order = [at for at in range(len(crossings)) if at not in gone]
    passed = set()
    new = {}
    for place in places(crossings):
        if place[0] in gone:
            continue
        there = wired[place]
        while there[0] in gone:
            passed.update((there, bridge[there]))
            there = wired[bridge[there]]
        new[place] = there
    for place in bridge:
        if place not in passed:
            rings += 1
            while place not in passed:
                passed.update((place, bridge[place]))
                place = wired[bridge[place]]
    return sheet_of(order, new, rings)


def all_sheets(n, rings=0):
    """Every sheet of n crossings."""
    def pairings(left):
        if not left:
            yield {}
            return
        first = left[0]
        for k in range(1, len(left)):
            for rest in pairings(left[1:k] + left[k + 1:]):
                yield {**rest, first: left[k], left[k]: first}
    for wired in pairings([(at, end) for at in range(n) for end in range(4)]):
        yield sheet_of(range(n), wired, rings)


def some_sheets(n, many, seed):
    """Sheets of n crossings with the ends wired by lot, always the same ones; most can't be drawn flat."""
    lot = random.Random(seed)
    found = []
    for k in range(many):
        left = [(at, end) for at in range(n) for end in range(4)]
        lot.shuffle(left)
        wired = {}
        while left:
            one, other = left.pop(), left.pop()
            wired[one], wired[other] = other, one
        found.append(sheet_of(range(n), wired, k % 3))
    return found


def loops(wired, bridge):
    seen = set()
    count = 0
    for place in wired:
        if place not in seen:
            count += 1
            while place not in seen:
                seen.update((place, wired[place]))
                place = bridge[wired[place]]
    return count


def across(crossings):
    return {(at, end): (at, (end + 2) % 4) for at, end in places(crossings)}


def strand_count(sheet):
    return loops(wires(sheet[0]), across(sheet[0])) + sheet[1]


def directions(crossings):
    """Each place into which a walker goes, with its strand's number; each strand is walked one way."""
    wired = wires(crossings)
    bridge = across(crossings)
    into = {}
    seen = set()
    strand = 0
    for place in places(crossings):
        if place not in seen:
            while place not in seen:
                into[place] = strand
                seen.update((place, bridge[place]))
                place = wired[bridge[place]]
            strand += 1
    return into


def twist(sheet):
    """By the directions in which both cords of a crossing are walked."""
    into = directions(sheet[0])
    count = 0
    for at in range(len(sheet[0])):
        lower = 0 if (at, 0) in into else 2
        upper = 3 if (at, 3) in into else 1
        if into[(at, lower)] == into[(at, upper)]:
            count += 1 if (lower, upper) in ((0, 3), (2, 1)) else -1
    return count


def times(one, other):
    product = {}
    for power, number in one.items():
        for more, factor in other.items():
            product[power + more] = product.get(power + more, 0) + number * factor
    return product


def total(sheet):
    """The sum over all ways of splitting every crossing at once."""
    crossings, rings = sheet
    wired = wires(crossings)
    factors = [{0: 1}]
    for _ in range(2 * len(crossings) + rings):
        factors.append(times(factors[-1], {2: -1, -2: -1}))
    found = {}
    for choice in range(2 ** len(crossings)):
        bridge = {}
        shift = 0
        for at in range(len(crossings)):
            other = (choice >> at) & 1
            shift += -1 if other else 1
            for one, two in (((0, 3), (1, 2)) if other else ((0, 1), (2, 3))):
                bridge[(at, one)], bridge[(at, two)] = (at, two), (at, one)
        for power, number in factors[loops(wired, bridge) + rings].items():
            found[power + shift] = found.get(power + shift, 0) + number
    return found


def straight(sheet):
    turn = twist(sheet)
    sign = -1 if turn % 2 else 1
    return sorted((power - 3 * turn, sign * number) for power, number in total(sheet).items() if number)


def colourings(sheet, prime):
    """prime to the number of lines and rings that are free, by elimination."""
    crossings, rings = sheet
    width = 2 * len(crossings)
    rows = []
    for a, b, c, d in crossings:
        same = [0] * width
        same[b] += 1
        same[d] -= 1
        even = [0] * width
        even[b] += 2
        even[a] -= 1
        even[c] -= 1
        rows += [same, even]
    rank = 0
    for column in range(width):
        pivot = next((k for k in range(rank, len(rows)) if rows[k][column] % prime), None)
        if pivot is None:
            continue
        rows[rank], rows[pivot] = rows[pivot], rows[rank]
        inverse = pow(rows[rank][column], -1, prime)
        rows[rank] = [value * inverse % prime for value in rows[rank]]
        for k in range(len(rows)):
            if k != rank and rows[k][column] % prime:
                factor = rows[k][column]
                rows[k] = [(x - factor * y) % prime for x, y in zip(rows[k], rows[rank])]
        rank += 1
    return prime ** (width - rank + rings)


def kept(sheet):
    """All that the moves leave as it was."""
    return (straight(sheet), strand_count(sheet), [colourings(sheet, prime) for prime in (2, 3, 5, 7, 11, 13)])


def told(crossings, rings):
    """The sheet of crossings whose lines bear any names, numbered by first standing."""
    numbers = {}
    return (tuple(tuple(numbers.setdefault(name, len(numbers)) for name in row) for row in crossings), rings)


def rounds(sheet):
    wired = wires(sheet[0])
    bridge = across(sheet[0])
    seen = set()
    found = []
    for line in range(2 * len(sheet[0])):
        if line in seen:
            continue
        first = [p for p in places(sheet[0]) if sheet[0][p[0]][p[1]] == line][1]
        walked = [line]
        place = wired[bridge[first]]
        while place != first:
            walked.append(sheet[0][place[0]][place[1]])
            place = wired[bridge[place]]
        seen.update(walked)
        found.append(walked)
    return found
