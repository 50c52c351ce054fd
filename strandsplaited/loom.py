"""Looms: words under edits, which can be taken back and done again."""

from strandsplaited.curves import curve_of, lean
from strandsplaited.errors import NoPlait
from strandsplaited.forms import form_of
from strandsplaited.rows import row_of
from strandsplaited.words import is_word


class Loom:
    """A word under edits, the empty one at first.

    For each deed that stands the word ahead of it is kept, and for each one
    that was taken back the word behind it.
    """

    def __init__(self, strands):
        self._strands = strands
        self._word = ()
        self._before = []
        self._behind = []

    @property
    def word(self):
        """The word as it is now."""
        return self._word

    def put(self, place, letters):
        """Puts the letters in ahead of the crossing at the place, and returns the length that the word has then."""
        if not 0 <= place <= len(self._word):
            raise NoPlait("the word has no such place")
        if not is_word(self._strands, letters):
            raise NoPlait("the letters are not a word")
        self._change(self._word[:place] + letters + self._word[place:])
        return len(self._word)

    def take(self, place, many):
        """Takes so many letters out, from the place on, and returns them."""
        if many < 0 or not 0 <= place <= len(self._word) - many:
            raise NoPlait("the word has no such letters")
        taken = self._word[place:place + many]
        self._change(self._word[:place] + self._word[place + many:])
        return taken

    def undo(self):
        """Takes the last put or take back, and returns the word."""
        if not self._before:
            raise NoPlait("there is nothing to take back")
        self._behind.append(self._word)
        self._word = self._before.pop()
        return self._word

    def redo(self):
        """Does again what was taken back last, and returns the word."""
        if not self._behind:
            raise NoPlait("there is nothing to do again")
        self._before.append(self._word)
        self._word = self._behind.pop()
        return self._word

    def row(self):
        """Returns the row behind the word."""
        return row_of(self._strands, self._word)

    def form(self):
        """Returns the normal form of the word's plait."""
        return form_of(self._strands, self._word)

    def curve(self):
        """Returns the curve of the word."""
        return curve_of(self._strands, self._word)

    def sense(self):
        """Returns 0 if the word is alike to the empty one, -1 if it is less, 1 if it is greater."""
        return lean(self.curve())

    def _change(self, word):
        """Makes the word another one, as a new deed that stands."""
        self._before.append(self._word)
        self._behind = []
        self._word = word
