"""The order of plaits: which of two words is less, and between which whole turns a plait lies."""

from strandsplaited.curves import carried, curve_of, lean
from strandsplaited.rows import half_turn, word_of_row
from strandsplaited.words import undone


def compare(strands, one, other):
    """Returns 0 if the words are alike, -1 if the first one is less, 1 if the second one is less."""
    return -lean(carried(curve_of(strands, undone(one)), other))


def ascending(strands, words):
    """Returns the list of the words in their order; alike words stay in the order in which they were."""
    found = []
    for word in words:
        found.insert(_place_behind(strands, found, word), word)
    return found


def _place_behind(strands, words, word):
    """Returns the place behind those of the ascending words that are not greater than the word."""
    curve = curve_of(strands, undone(word))
    low = 0
    high = len(words)
    while low < high:
        middle = (low + high) // 2
        if lean(carried(curve, words[middle])) > 0:
            high = middle
        else:
            low = middle + 1
    return low


def floor(strands, word):
    """Returns the number of whole turns that are not greater than the plait, while one more is."""
    turn = word_of_row(half_turn(strands)) * 2
    if not turn:
        # With a single strand there is nothing to turn.
        return 0
    back = undone(turn)
    curve = curve_of(strands, word)
    turns = 0
    # Whole turns change places with all words, so they may be put behind the word.
    while lean(curve) >= 0:
        curve = carried(curve, back)
        turns += 1
    while lean(curve) < 0:
        curve = carried(curve, turn)
        turns -= 1
    return turns
