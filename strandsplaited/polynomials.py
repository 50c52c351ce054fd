"""Polynomials in t: lists of integers, the first one that without t, the next one that of t, and so on."""


def plus(one, other):
    """Returns the sum of the two polynomials."""
    found = [0] * max(len(one), len(other))
    for at, number in enumerate(one):
        found[at] += number
    for at, number in enumerate(other):
        found[at] += number
    return found


def negative(one):
    """Returns the polynomial with the other sign."""
    return [-number for number in one]


def times(one, other):
    """Returns the product of the two polynomials."""
    if not one or not other:
        return []
    found = [0] * (len(one) + len(other) - 1)
    for at, number in enumerate(one):
        for more, factor in enumerate(other):
            found[at + more] += number * factor
    return found


def trimmed(one):
    """Returns the polynomial without the zeros at its end, and divided by t as often as that leaves nothing."""
    start = 0
    end = len(one)
    while start < end and one[end - 1] == 0:
        end -= 1
    while start < end and one[start] == 0:
        start += 1
    return one[start:end]


def divided(one, many):
    """Returns the polynomial divided by 1 + t + .., a sum of so many terms, which is to leave nothing."""
    found = []
    for at in range(len(one) - many + 1):
        found.append(one[at] - sum(found[max(at - many + 1, 0):]))
    return found


def determinant(table):
    """Returns the determinant of a table, a list of rows of polynomials.

    Row by row, each choice of as many columns as there are rows so far has its
    own determinant; the columns of a choice are the bits of a number.
    """
    known = {0: [1]}
    for row in table:
        further = {}
        for columns, value in known.items():
            for at, item in enumerate(row):
                if not columns >> at & 1:
                    chosen = columns | 1 << at
                    part = times(value, item)
                    if _count_bits(columns >> at) & 1:
                        part = negative(part)
                    further[chosen] = plus(further.get(chosen, []), part)
        known = further
    return known[(1 << len(table)) - 1]


def _count_bits(number):
    """Returns how many bits of the number are 1."""
    many = 0
    while number:
        number &= number - 1
        many += 1
    return many
