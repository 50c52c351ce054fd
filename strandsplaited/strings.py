"""Strings: words in the strands themselves and their undoings, which each word changes in its own way."""

from strandsplaited.errors import NoPlait
from strandsplaited.words import undone


def strings_of(strands, word):
    """Returns the strings of the word, one for each strand."""
    strings = [(strand,) for strand in range(1, strands + 1)]
    for letter in word:
        at = abs(letter)
        strings[at - 1:at + 1] = _changed(strings, letter)
    return tuple(strings)


def is_plaited(strands, strings):
    """Tells whether the tuple of tuples is that of the strings of some word."""
    if sorted([_middle(strands, string) for string in strings]) != list(range(1, strands + 1)):
        return False
    behind = ()
    for string in strings:
        behind = put_together(behind, string)
    return behind == tuple(range(1, strands + 1))


def word_of_strings(strands, strings):
    """Returns a word with these strings. Raises NoPlait if there is none.

    As long as one of the strings of a word is longer than 1, some letter makes
    them shorter together (a theorem of Artin).
    """
    if not is_plaited(strands, strings):
        raise NoPlait("no word has these strings")
    left = list(strings)
    letters = []
    letter = _shortening(left)
    while letter != 0:
        at = abs(letter)
        left[at - 1:at + 1] = _changed(left, letter)
        letters.append(letter)
        letter = _shortening(left)
    return undone(tuple(letters))


def put_together(one, other):
    """Returns the second string behind the first one, without the neighbours that undo one another."""
    most = min(len(one), len(other))
    same = 0
    while same < most and one[-1 - same] == -other[same]:
        same += 1
    return one[:len(one) - same] + other[same:]


def _changed(strings, letter):
    """Returns the two strings that the letter makes of those at its places."""
    at = abs(letter)
    one, other = strings[at - 1:at + 1]
    if letter > 0:
        return put_together(put_together(one, other), undone(one)), one
    return other, put_together(put_together(undone(other), one), other)


def _middle(strands, string):
    """Returns the integer that has a string in front and the one that undoes it behind, or 0 if there is none."""
    at = len(string) // 2
    if not string or string != undone(string[at + 1:]) + string[at:]:
        return 0
    for one, other in zip(string, string[1:]):
        if one == -other:
            return 0
    if max([abs(strand) for strand in string]) > strands:
        return 0
    return string[at]


def _shortening(strings):
    """Returns the letter that makes the strings shortest together, or 0 if none makes them shorter."""
    best = 0
    most = 0
    for at in range(1, len(strings)):
        one, other = strings[at - 1:at + 1]
        for letter in (at, -at):
            first, second = _changed(strings, letter)
            less = len(one) + len(other) - len(first) - len(second)
            if less > most:
                best, most = letter, less
    return best
