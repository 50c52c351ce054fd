"""A word that is worked on by moves."""


class Bench:
    """The letters that a word has by now, and the moves that have led it there."""

    def __init__(self, word):
        self.letters = list(word)
        self.moves = []
        self._kept = {}

    def put_pair(self, place, letter):
        """Puts the letter in at the place, and the letter with the other sign behind it."""
        self.make(place, (), (letter, -letter))

    def take_pair(self, place):
        """Takes out the letter at the place and the one with the other sign behind it."""
        letter = self.letters[place]
        self.make(place, (letter, -letter), ())

    def exchange(self, place):
        """Exchanges the letter at the place and the one behind it."""
        one, other = self.letters[place:place + 2]
        self.make(place, (one, other), (other, one))

    def turn(self, place):
        """Makes b a b of the letters a b a from the place on."""
        one, other = self.letters[place:place + 2]
        self.make(place, (one, other, one), (other, one, other))

    def make(self, place, old, new):
        """Makes the move, which the caller knows to be one that can be made."""
        self.letters[place:place + len(old)] = new
        move = (place, old, new)
        # There can be millions of moves, of which most are equal to others: keeping these once saves the memory.
        self.moves.append(self._kept.setdefault(move, move))
