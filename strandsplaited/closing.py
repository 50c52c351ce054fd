"""Closed plaits: their pieces and links, their polynomials, and their colourings."""

from math import gcd

from strandsplaited.polynomials import determinant, divided, negative, plus, times, trimmed
from strandsplaited.rows import plain_row, row_of


def pieces(strands, word):
    """Returns the list of the pieces of the closed plait."""
    row = row_of(strands, word)
    found = []
    known = set()
    for first in range(strands):
        piece = []
        strand = first
        while strand not in known:
            known.add(strand)
            piece.append(strand)
            # The strand that lies behind this one's beginning is tied to it.
            strand = row[strand]
        if piece:
            found.append(tuple(sorted(piece)))
    return found


def linked(strands, word):
    """Returns the list of the links: the number of a piece, that of a later piece, and their link."""
    numbers = {}
    for number, piece in enumerate(pieces(strands, word)):
        for strand in piece:
            numbers[strand] = number
    many = max(list(numbers.values())) + 1
    sums = {(one, other): 0 for other in range(many) for one in range(other)}
    row = list(plain_row(strands))
    for letter in word:
        at = abs(letter)
        pair = tuple(sorted([numbers[row[at - 1]], numbers[row[at]]]))
        if pair in sums:
            sums[pair] += 1 if letter > 0 else -1
        row[at - 1], row[at] = row[at], row[at - 1]
    return sorted([(one, other, summed // 2) for (one, other), summed in sums.items()])


def polynomial(strands, word):
    """Returns the tuple of the coefficients of the closed plait's polynomial."""
    table, power = _table(strands, word)
    one = [0] * power + [1]
    rest = [[negative(item) for item in row] for row in table]
    for at in range(strands - 1):
        rest[at][at] = plus(one, rest[at][at])
    found = divided(trimmed(determinant(rest)), strands)
    if found and found[0] < 0:
        found = negative(found)
    return tuple(found)


def _table(strands, word):
    """Returns the table of the word times a power of t such that no exponent is negative, and this power."""
    size = strands - 1
    table = [[[1] if at == column else [] for column in range(size)] for at in range(size)]
    power = 0
    for letter in word:
        table = [_multiplied(row, letter) for row in table]
        if letter < 0:
            power += 1
    return table, power


def _multiplied(row, letter):
    """Returns the row of a table multiplied by the table of the letter, and by t, too, if the letter is negative."""
    at = abs(letter) - 1
    before = times(row[at], [0, 1])
    if letter > 0:
        found = list(row)
        found[at] = negative(before)
    else:
        found = [times(item, [0, 1]) for item in row]
        found[at] = negative(row[at])
    if at > 0:
        found[at - 1] = plus(found[at - 1], before)
    if at + 1 < len(row):
        found[at + 1] = plus(found[at + 1], row[at])
    return found


def colourings(strands, word, colours):
    """Returns how many colourings with so many colours the closed plait has."""
    # Each colour behind the word is a sum of multiples of the colours in front.
    plain = [[1 if at == strand else 0 for strand in range(strands)] for at in range(strands)]
    sums = list(plain)
    for letter in word:
        at = abs(letter)
        one, other = sums[at - 1:at + 1]
        if letter > 0:
            sums[at - 1:at + 1] = [_turned_over(one, other, colours), one]
        else:
            sums[at - 1:at + 1] = [other, _turned_over(other, one, colours)]
    rows = [[number % colours for number in _less(told, same, 1)] for told, same in zip(sums, plain)]
    return _count_solutions(rows, colours)


def _turned_over(one, other, colours):
    """Returns the sum that is twice the first one less the second one, less multiples of the number of colours."""
    return [(2 * x - y) % colours for x, y in zip(one, other)]


def _count_solutions(rows, colours):
    """Returns for how many choices of colours, one for each column, all rows give multiples of their number.

    Adding multiples of rows to rows, and of columns to columns, changes
    nothing of this. The number that is nearest to 0 takes away from all others
    in its row and its column, until it is alone there.
    """
    many = 1
    left = rows
    columns = len(rows)
    while columns > 0:
        near = _nearest(left)
        if near is None:
            many *= colours
            columns -= 1
        elif _is_alone(left, near):
            at, column = near
            many *= gcd(left[at][column], colours)
            left = [row[:column] + row[column + 1:] for row in left[:at] + left[at + 1:]]
            columns -= 1
        else:
            left = _reduced_rows(left, near)
    return many


def _nearest(rows):
    """Returns the row and the column of a number that is not 0 and nearest to 0, or None if all are 0."""
    places = [(abs(number), at, column) for at, row in enumerate(rows) for column, number in enumerate(row) if number]
    if not places:
        return None
    _, at, column = min(places)
    return at, column


def _is_alone(rows, place):
    """Tells whether all other numbers in the row and in the column of the place are 0."""
    at, column = place
    return rows[at].count(0) == len(rows[at]) - 1 and [row[column] for row in rows].count(0) == len(rows) - 1


def _reduced_rows(rows, place):
    """Returns the rows with the other numbers in the row and in the column of the place nearer to 0."""
    at, column = place
    number = rows[at][column]
    found = [row if other == at else _less(row, rows[at], row[column] // number) for other, row in enumerate(rows)]
    factors = [0 if other == column else item // number for other, item in enumerate(rows[at])]
    return [_less(row, factors, row[column]) for row in found]


def _less(row, other, factor):
    """Returns the row less so many times the other one."""
    return [x - factor * y for x, y in zip(row, other)]
