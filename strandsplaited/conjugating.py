"""Conjugates: whether a word leads a plait to another one if it stands behind it and is undone in front of it."""

from strandsplaited.circuits import Circuits
from strandsplaited.curves import curve_of
from strandsplaited.forms import form_of
from strandsplaited.strings import put_together
from strandsplaited.words import total, undone


def conjugate(strands, one, other):
    """Returns a word that leads the first word to one that is alike to the second one, or None if there is none."""
    if total(one) != total(other):
        return None
    circuits = Circuits(strands)
    first, ahead = circuits.settled(form_of(strands, one))
    last, behind = circuits.settled(form_of(strands, other))
    between = circuits.way(first, last)
    if between is None:
        return None
    # Only where the positive letters end and the negative ones begin can letters take one another out.
    return put_together(ahead + between, undone(behind))


def leads_by(strands, one, word, other):
    """Tells whether the word leads the first word by conjugation to one that is alike to the second one."""
    return curve_of(strands, undone(word) + one + word) == curve_of(strands, other)
