"""Words and papers as text, written and read."""

from strandsplaited.errors import BadText
from strandsplaited.words import MOST_STRANDS

_STRINGS = ("alike", "less", "more")
_MOST_DIGITS = 9


def write_word(strands, word):
    """Returns the text of the word."""
    return f"{strands}: {_letters_text(word)}"


def read_word(text):
    """Returns the pair of the number of strands and of the word of a text. Raises BadText if it is none."""
    head, mark, tail = text.partition(": ")
    numbers = {str(strands): strands for strands in range(2, MOST_STRANDS + 1)}
    if not mark or head not in numbers:
        raise BadText("the text does not begin with a number of strands")
    strands = numbers[head]
    return strands, _read_letters(tail, _letters_by_text(strands))


def write_paper(paper):
    """Returns the list of the lines of the paper."""
    told, moves = paper
    # There can be millions of moves, of which most are equal to others: each is written once.
    known = {}
    lines = [told]
    for move in moves:
        if move not in known:
            place, old, new = move
            known[move] = f"{place} {_letters_text(old)} > {_letters_text(new)}"
        lines.append(known[move])
    return lines


def read_paper(lines):
    """Returns the string of a paper's lines and the list of its tuples, a pair. Raises BadText if it is none."""
    if not lines or lines[0] not in _STRINGS:
        raise BadText("the lines do not begin with one of the three strings")
    letters = _letters_by_text(MOST_STRANDS)
    # As above, each of equal lines is looked into once.
    known = {}
    moves = []
    for line in lines[1:]:
        if line not in known:
            known[line] = _read_move(line, letters)
        moves.append(known[line])
    return lines[0], moves


def _letters_text(word):
    """Returns the letters of the word with one space between them, or a point for the empty word."""
    return " ".join([str(letter) for letter in word]) if word else "."


def _letters_by_text(strands):
    """Returns the letters of so many strands by the ways they are written."""
    return {str(letter): letter for letter in range(1 - strands, strands) if letter != 0}


def _read_letters(text, letters):
    """Returns the word that is written so with these letters."""
    if text == ".":
        return ()
    word = []
    for part in text.split(" "):
        if part not in letters:
            raise BadText("there is something that is no letter")
        word.append(letters[part])
    return tuple(word)


def _read_move(line, letters):
    """Returns the tuple of a place and of two words that the line tells."""
    head, _, tail = line.partition(" ")
    old, mark, new = tail.partition(" > ")
    if not mark:
        raise BadText("a line does not tell what becomes of the letters")
    return _read_place(head), _read_letters(old, letters), _read_letters(new, letters)


def _read_place(text):
    """Returns the place that is written so."""
    if not 1 <= len(text) <= _MOST_DIGITS or [sign for sign in text if sign not in "0123456789"]:
        raise BadText("a line does not begin with a place")
    if len(text) > 1 and text[0] == "0":
        raise BadText("a place has a needless zero")
    return int(text)
