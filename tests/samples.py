"""What several tests need: words that are the same in each run, moves of words, and the curves of words."""

from pathlib import Path

PACKAGE = Path(__file__).resolve().parent.parent / "strandsplaited"


class Dice:
    """Numbers that look like chance and are the same in each run."""

    def __init__(self, seed):
        self.state = seed

    def below(self, limit):
        self.state = (self.state * 6364136223846793005 + 1442695040888963407) & (2**64 - 1)
        return (self.state >> 33) % limit

    def letter(self, strands):
        return (1 + self.below(strands - 1)) * (1 - 2 * self.below(2))

    def word(self, strands, length):
        return tuple(self.letter(strands) for _ in range(length))


def half_turn_word(strands):
    """A word in which each two strands cross once, in the positive sense."""
    word = ()
    for last in range(strands - 1, 0, -1):
        word += tuple(range(1, last + 1))
    return word


def letters_of(strands):
    return [k for k in range(1 - strands, strands) if k]


def kinds_of(strands):
    """All pairs (old, new) of moves, listed by the words of point 5 and not by trying pairs."""
    kinds = set()
    for a in letters_of(strands):
        kinds.add(((), (a, -a)))
        kinds.add(((a, -a), ()))
        for b in letters_of(strands):
            if abs(abs(a) - abs(b)) >= 2:
                kinds.add(((a, b), (b, a)))
            if b in (a - 1, a + 1) and (a > 0) == (b > 0):
                kinds.add(((a, b, a), (b, a, b)))
    return kinds


def changed_by_moves(dice, strands, word, many):
    """A list of so many moves that can be made one behind the other on the word, and the word that they make."""
    kinds = sorted(kinds_of(strands))
    moves = []
    while len(moves) < many:
        old, new = kinds[dice.below(len(kinds))]
        places = [p for p in range(len(word) + 1) if word[p:p + len(old)] == old]
        # A pair that is put in can stand anywhere: without this, words would only grow.
        if places and (old or dice.below(4) == 0):
            place = places[dice.below(len(places))]
            moves.append((place, old, new))
            word = word[:place] + new + word[place + len(old):]
    return moves, word


def curve_told(strands, word):
    """The curve of the word, straight from point 17."""

    def up(x):
        return max(x, 0)

    def down(x):
        return min(x, 0)

    curve = [0, 1] * strands
    for letter in word:
        at = 2 * (abs(letter) - 1)
        a, b, c, d = curve[at:at + 4]
        if letter > 0:
            e = a - down(b) - c + up(d)
            curve[at:at + 4] = [a + up(b) + up(up(d) - e), d - up(e),
                                c + down(d) + down(down(b) + e), b + up(e)]
        else:
            e = a + down(b) - c - up(d)
            curve[at:at + 4] = [a - up(b) - up(up(d) + e), d + down(e),
                                c - down(d) - down(down(b) - e), b - down(e)]
    return tuple(curve)


def lean_of(strands, word):
    """The lean of the curve of the word, straight from points 17 and 18."""
    for first in curve_told(strands, word)[::2]:
        if first:
            return 1 if first > 0 else -1
    return 0
