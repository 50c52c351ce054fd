"""Positive plaits: counted by their crossings, and told by their places among those with as many crossings."""

from itertools import permutations

from strandsplaited.errors import NoPlait
from strandsplaited.forms import form_of
from strandsplaited.rows import ends, half_turn, plain_row, starts, word_of_row


class Positive:
    """The positive plaits of so many strands, each one as the rows of its normal form.

    Half turns are rows like the others here: one can only stand behind
    another one, and each row may stand behind it. So what may follow depends
    on nothing but the letters with which the last row ends.
    """

    def __init__(self, strands):
        self._strands = strands
        self._letters = tuple(range(1, strands))
        plain = plain_row(strands)
        rows = [row for row in permutations(range(strands)) if row != plain]
        told = [(row, word_of_row(row), tuple(ends(row))) for row in rows]
        self._following = {}
        for last in [self._letters] + [end for _, _, end in told]:
            if last not in self._following:
                self._following[last] = [item for item in told if _may_follow(last, item[0])]
        # The item at a number of crossings tells, for each end of a row, how many plaits may follow.
        self._counts = [{last: 1 for last in self._following}]

    def count(self, many):
        """Returns how many positive plaits there are with so many crossings."""
        if many < 0:
            return 0
        return self._ways(self._letters, many)

    def place(self, word):
        """Returns the place of the plait of the word. Raises NoPlait if a letter is negative."""
        if [letter for letter in word if letter < 0]:
            raise NoPlait("a letter is negative")
        turns, rows = form_of(self._strands, word)
        found = 0
        last = self._letters
        left = len(word)
        for row in (half_turn(self._strands),) * turns + rows:
            for other, letters, behind in self._following[last]:
                if other < row:
                    found += self._ways(behind, left - len(letters))
            last = tuple(ends(row))
            left -= len(word_of_row(row))
        return found

    def at(self, many, place):
        """Returns the word of the plait with so many crossings and this place. Raises NoPlait if there is none."""
        if not 0 <= place < self.count(many):
            raise NoPlait("there is no plait with this place")
        word = []
        last = self._letters
        left = place
        while len(word) < many:
            letters, last, left = self._next_row(last, many - len(word), left)
            word.extend(letters)
        return tuple(word)

    def all_from(self, many, start):
        """Yields the words of the plaits with so many crossings, from the place on, in order."""
        for place in range(start, self.count(many)):
            yield self.at(many, place)

    def _ways(self, last, many):
        """Returns how many plaits of so many crossings may follow a row with this end; none for a negative number."""
        if many < 0:
            return 0
        while len(self._counts) <= many:
            size = len(self._counts)
            self._counts.append({end: self._sum(end, size) for end in self._following})
        return self._counts[many][last]

    def _sum(self, last, many):
        """Returns how many plaits of so many crossings may follow, if it is known for all lesser numbers."""
        rows = self._following[last]
        return sum([self._counts[many - len(letters)][behind] for _, letters, behind in rows if len(letters) <= many])

    def _next_row(self, last, many, place):
        """Returns the word and the end of the first row of what follows, and the place of what follows behind it."""
        left = place
        for _, letters, behind in self._following[last]:
            ways = self._ways(behind, many - len(letters))
            if left < ways:
                break
            left -= ways
        return letters, behind, left


def _may_follow(last, row):
    """Tells whether the row begins only with letters with which the row ahead of it ends."""
    return all([letter in last for letter in starts(row)])
