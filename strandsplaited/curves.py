"""Curves: rows of integers that words carry, and that tell of two words whether they are alike and which is less."""


def plain_curve(strands):
    """Returns the plain curve."""
    return (0, 1) * strands


def carried(curve, word):
    """Returns the curve to which the word carries the curve."""
    numbers = list(curve)
    for letter in word:
        at = 2 * abs(letter) - 2
        a, b, c, d = numbers[at:at + 4]
        if letter > 0:
            numbers[at:at + 4] = _crossed(a, b, c, d)
        else:
            numbers[at:at + 4] = _crossed_back(a, b, c, d)
    return tuple(numbers)


def curve_of(strands, word):
    """Returns the curve of the word: the one to which it carries the plain curve."""
    return carried(plain_curve(strands), word)


def lean(curve):
    """Returns the sign of the first one of the strands' first integers that is not 0, or 0 if there is none."""
    for first in curve[::2]:
        if first != 0:
            return 1 if first > 0 else -1
    return 0


def _crossed(a, b, c, d):
    """Returns what a positive letter makes of the integers of its two strands."""
    change = a - min(b, 0) - c + max(d, 0)
    return (a + max(b, 0) + max(max(d, 0) - change, 0), d - max(change, 0),
            c + min(d, 0) + min(min(b, 0) + change, 0), b + max(change, 0))


def _crossed_back(a, b, c, d):
    """Returns what a negative letter makes of the integers of its two strands."""
    change = a + min(b, 0) - c - max(d, 0)
    return (a - max(b, 0) - max(max(d, 0) + change, 0), d + min(change, 0),
            c - min(d, 0) - min(min(b, 0) - change, 0), b - min(change, 0))
