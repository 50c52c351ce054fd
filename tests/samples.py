"""What several tests need: words that are the same in each run, and the lean of their curves."""

from pathlib import Path

PACKAGE = Path(__file__).resolve().parent.parent / "strandsplaited"


class Dice:
    """Numbers that look like chance and are the same in each run."""

    def __init__(self, seed):
        self.state = seed

    def below(self, limit):
        self.state = (self.state * 6364136223846793005 + 1442695040888963407) & (2**64 - 1)
        return (self.state >> 33) % limit

    def letter(self, strands):
        return (1 + self.below(strands - 1)) * (1 - 2 * self.below(2))

    def word(self, strands, length):
        return tuple(self.letter(strands) for _ in range(length))


def lean_of(strands, word):
    """The lean of the curve of the word, straight from points 17 and 18."""

    def up(x):
        return max(x, 0)

    def down(x):
        return min(x, 0)

    curve = [0, 1] * strands
    for letter in word:
        at = 2 * (abs(letter) - 1)
        a, b, c, d = curve[at:at + 4]
        if letter > 0:
            e = a - down(b) - c + up(d)
            curve[at:at + 4] = [a + up(b) + up(up(d) - e), d - up(e),
                                c + down(d) + down(down(b) + e), b + up(e)]
        else:
            e = a + down(b) - c - up(d)
            curve[at:at + 4] = [a - up(b) - up(up(d) + e), d + down(e),
                                c - down(d) - down(down(b) - e), b - down(e)]
    for first in curve[::2]:
        if first:
            return 1 if first > 0 else -1
    return 0
