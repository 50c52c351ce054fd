"""A word that is worked on by moves."""


class Bench:
    """The letters that a word has by now, and the moves that have led it there."""

    def __init__(self, word):
        self.letters = list(word)
        self.moves = []
        self._kept = {}

    def put_pair(self, place, letter):
        """Puts the letter in at the place, and the letter with the other sign behind it."""
        self._make(place, (), (letter, -letter))

    def take_pair(self, place):
        """Takes out the letter at the place and the one with the other sign behind it."""
        letter = self.letters[place]
        self._make(place, (letter, -letter), ())

    def exchange(self, place):
        """Exchanges the letter at the place and the one behind it."""
        one, other = self.letters[place:place + 2]
        self._make(place, (one, other), (other, one))

    def turn(self, place):
        """Makes b a b of the letters a b a from the place on."""
        one, other = self.letters[place:place + 2]
        self._make(place, (one, other, one), (other, one, other))

    def _make(self, place, old, new):
        self.letters[place:place + len(old)] = new
        self.moves.append((place, self._once(old), self._once(new)))

    def _once(self, word):
        # There can be a million moves, of few words: keeping equal words once saves most of the memory.
        return self._kept.setdefault(word, word)
