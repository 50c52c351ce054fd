"""Conjugate forms, slid along until they come back: for each plait there are few of these.

To slide a form is to take from its front, by conjugation, what its last row
can take over. From each form this leads into a circuit. If two forms in such
circuits are conjugates, rows lead the one to the other by conjugation, from
circuit to circuit (a theorem of Gebhardt and Gonzalez-Meneses).
"""

from itertools import permutations

from strandsplaited.forms import gathered, led_past, rest_of, taken_over
from strandsplaited.rows import places_of, plain_row, word_of_row


class Circuits:
    """The forms of so many strands, with what is known of them by now."""

    def __init__(self, strands):
        self._strands = strands
        self._rows = list(permutations(range(strands)))
        self._known = {}
        self._circular = {}

    def settled(self, form):
        """Returns a form in a circuit, and a word that leads the form to it by conjugation."""
        word = []
        while not self.is_circular(form):
            row, form = self._slid(form)
            word.extend(word_of_row(row))
        return form, tuple(word)

    def is_circular(self, form):
        """Tells whether the form comes back if it is slid on and on."""
        path = []
        places = {}
        last = form
        while last not in places and last not in self._circular:
            places[last] = len(path)
            path.append(last)
            _, last = self._slid(last)
        # The first form that comes up again is where the circuit begins; from a known one nothing leads back here.
        start = places.get(last, len(path))
        for place, passed in enumerate(path):
            self._circular[passed] = place >= start
        return self._circular[form]

    def way(self, first, last):
        """Returns a word that leads the first form in a circuit to the last one by conjugation, or None."""
        if not _are_like(first, last):
            return None
        steps = {first: None}
        todo = [first]
        at = 0
        while at < len(todo) and last not in steps:
            neighbours = self._neighbours(todo[at])
            for row, form in neighbours:
                if form not in steps:
                    steps[form] = (row, todo[at])
                    todo.append(form)
            at += 1
        if last not in steps:
            return None
        word = ()
        form = last
        while form != first:
            row, form = steps[form]
            word = word_of_row(row) + word
        return word

    def _neighbours(self, form):
        """Returns the forms in circuits to which single rows lead this one, with these rows."""
        found = []
        for row in self._rows:
            other = self._led(form, row)
            if _are_like(form, other) and self.is_circular(other):
                found.append((row, other))
        return found

    def _led(self, form, row):
        """Returns the form to which the row leads the form by conjugation."""
        turns, rows = form
        # The undone row is an undone half turn and the rest behind it.
        front = led_past(rest_of(row), turns)
        return gathered(self._strands, turns - 1, (front,) + rows + (row,), self._known)

    def _slid(self, form):
        """Returns the row by which the form slides, and the form to which that leads."""
        turns, rows = form
        if not rows:
            return plain_row(self._strands), form
        first = led_past(rows[0], turns)
        last = rows[-1]
        more, rest = taken_over(last, first, self._known)
        places = places_of(last)
        row = tuple([places[strand] for strand in more])
        behind = (led_past(rest, turns),) + rows[1:] + (row,)
        return row, gathered(self._strands, turns, behind, self._known)


def _are_like(one, other):
    """Tells whether the forms have as many half turns and rows as one another, as conjugates in circuits have."""
    return one[0] == other[0] and len(one[1]) == len(other[1])
