"""The wordings of a row: told by their places, although there may be too many to list them."""

from strandsplaited.errors import NoPlait
from strandsplaited.rows import places_of


class Wordings:
    """The wordings of a row, in the order of tuples.

    What is left of a row behind some first letters is told by the places of
    its strands: a letter exchanges two neighbours among these.
    """

    def __init__(self, row):
        self._places = tuple(places_of(row))
        self._kept = {}

    def count(self):
        """Returns how many wordings there are."""
        return self._many(self._places)

    def wording(self, place):
        """Returns the wording with this place. Raises NoPlait if there is none."""
        if not 0 <= place < self.count():
            raise NoPlait("there is no wording with this place")
        word = []
        ways = self._ways(self._places)
        left = place
        while ways:
            at = 0
            while left >= ways[at][2]:
                left -= ways[at][2]
                at += 1
            letter, rest, _ = ways[at]
            word.append(letter)
            ways = self._ways(rest)
        return tuple(word)

    def place(self, word):
        """Returns the place of a wording. Raises NoPlait if the word is none of them."""
        found = 0
        places = self._places
        for letter in word:
            behind = None
            for first, rest, many in self._ways(places):
                if first < letter:
                    found += many
                elif first == letter:
                    behind = rest
            if behind is None:
                raise NoPlait("the word is not a wording of the row")
            places = behind
        if self._ways(places):
            raise NoPlait("the word is too short for a wording of the row")
        return found

    def wordings(self, start):
        """Yields the wordings from the place on, in order."""
        for place in range(start, self.count()):
            yield self.wording(place)

    def _ways(self, places):
        """Returns, for each first letter: the letter, what is left behind it, and how many wordings that has."""
        if places not in self._kept:
            ways = []
            for letter in range(1, len(places)):
                one, other = places[letter - 1:letter + 1]
                if one > other:
                    rest = places[:letter - 1] + (other, one) + places[letter + 1:]
                    ways.append((letter, rest, self._many(rest)))
            self._kept[places] = ways
        return self._kept[places]

    def _many(self, places):
        """Returns how many wordings there are of what is left."""
        ways = self._ways(places)
        if not ways:
            # Nothing is left, and that has the empty wording.
            return 1
        return sum([many for _, _, many in ways])
