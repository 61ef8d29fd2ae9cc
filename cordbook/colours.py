"""How many colourings a sheet has by a prime. Point 15 of the document."""


def colourings(sheet, prime):
    lines = 2 * len(sheet[0])
    free = lines - rank(conditions(sheet[0], lines), lines, prime) + sheet[1]
    count = 1
    for chosen in range(free):
        count = count * prime
    return count


# Each condition is a row with a factor for each line; the products' sum is to be a multiple of the prime.
def conditions(crossings, lines):
    rows = []
    for crossing in crossings:
        rows.append(weighed(((crossing[1], 1), (crossing[3], -1)), lines))
        rows.append(weighed(((crossing[1], 2), (crossing[0], -1), (crossing[2], -1)), lines))
    return rows


# A line that stands at several of the ends has all their weights together.
def weighed(weights, lines):
    row = [0] * lines
    for line, weight in weights:
        row[line] = row[line] + weight
    return row


# How many of the conditions are bound to no others: each settles one line more.
def rank(rows, lines, prime):
    settled = 0
    left = rows
    for line in range(lines):
        leading = [row for row in left if row[line] % prime != 0]
        if leading:
            settled = settled + 1
            others = [row for row in left if row[line] % prime == 0]
            left = others + [cleared(row, leading[0], line, prime) for row in leading[1:]]
    return settled


# The row less as much of the leading one that nothing stands at the line. Multiplying both
# crosswise spares a division, and does no harm since neither factor is a multiple of the prime.
def cleared(row, leading, line, prime):
    return [(own * leading[line] - taken * row[line]) % prime for own, taken in zip(row, leading)]
