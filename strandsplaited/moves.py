"""Moves: the small changes of a word that leave its plait as it is."""

from strandsplaited.errors import BadMove
from strandsplaited.words import is_word


def is_move(strands, move):
    """Tells whether the tuple is a move, wherever its place is."""
    _, old, new = move
    if not is_word(strands, old) or not is_word(strands, new):
        return False
    return _is_pair(old, new) or _is_exchange(old, new) or _is_turn(old, new)


def _is_pair(old, new):
    """Tells whether a letter and its opposite appear or vanish."""
    if old and new:
        return False
    pair = old + new
    return len(pair) == 2 and pair[0] == -pair[1]


def _is_exchange(old, new):
    """Tells whether two crossings without a common strand change their order."""
    return len(old) == 2 and new == old[::-1] and abs(abs(old[0]) - abs(old[1])) >= 2


def _is_turn(old, new):
    """Tells whether three crossings of three neighbouring strands become the other three."""
    if len(old) != 3:
        return False
    first, middle, last = old
    if first != last or new != (middle, first, middle):
        return False
    return (first > 0) == (middle > 0) and abs(first - middle) == 1


def _stands_there(letters, place, old):
    """Tells whether the place is one of the word and the letters from it on begin with the old ones."""
    return 0 <= place <= len(letters) and tuple(letters[place:place + len(old)]) == old


def made(strands, word, move):
    """Returns the word that the move makes. Raises BadMove if it is none or cannot be made."""
    if not is_move(strands, move):
        raise BadMove("this is not a move")
    place, old, new = move
    if not _stands_there(word, place, old):
        raise BadMove("this move cannot be made on the word")
    return word[:place] + new + word[place + len(old):]


def led_to(strands, word, moves):
    """Returns the word to which the moves lead the word, or None if one of them is none or cannot be made."""
    letters = list(word)
    # A list can have a million moves, but they are of a few hundred kinds: each is looked into once.
    known = set()
    for move in moves:
        place, old, new = move
        if (old, new) not in known:
            if not is_move(strands, move):
                return None
            known.add((old, new))
        if not _stands_there(letters, place, old):
            return None
        letters[place:place + len(old)] = new
    return tuple(letters)


def leads(strands, one, moves, other):
    """Tells whether the moves, one behind the other, make the second word out of the first one."""
    return led_to(strands, one, moves) == other
