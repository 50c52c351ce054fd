"""Normal forms: each plait as half turns and rows of which none could take over a crossing of the next one."""

from strandsplaited.rows import ends, half_turn, places_of, plain_row, row_of, starts, word_of_row
from strandsplaited.words import undone


def form_of(strands, word):
    """Returns the normal form of the plait of the word."""
    steps = [(row_of(strands, (letter,)), letter < 0) for letter in word]
    return _form_of_steps(strands, steps, 0)


def form_word(strands, form):
    """Returns the word of the form: that of its half turns, followed by those of its rows."""
    turns, rows = form
    turn = word_of_row(half_turn(strands))
    letters = list(turn * turns if turns > 0 else undone(turn) * -turns)
    for row in rows:
        letters.extend(word_of_row(row))
    return tuple(letters)


def product(strands, one, other):
    """Returns the normal form of the plait of the first form's word with that of the second one behind it."""
    turns, rows = one
    more, behind = other
    ahead = [led_past(row, more) for row in rows]
    return gathered(strands, turns + more, ahead + list(behind), {})


def undone_form(strands, form):
    """Returns the normal form of the plait of the undone word of the form's word."""
    turns, rows = form
    return _form_of_steps(strands, [(row, True) for row in rows[::-1]], -turns)


def is_form(strands, form):
    """Tells whether a pair of an integer and of a tuple of tuples of integers is a form."""
    _, rows = form
    strange = (plain_row(strands), half_turn(strands))
    for row in rows:
        if sorted(row) != list(range(strands)) or row in strange:
            return False
    return all([_may_follow(row, later) for row, later in zip(rows, rows[1:])])


def _may_follow(row, later):
    """Tells whether the later row begins only with letters with which the row ends."""
    last = ends(row)
    return all([letter in last for letter in starts(later)])


def _form_of_steps(strands, steps, turns):
    """Returns the normal form of rows, each as it is or undone, with so many half turns behind them.

    An undone row is an undone half turn and the rest behind it. All half turns
    are led to the front, from the last one on.
    """
    rows = []
    for row, is_undone in steps[::-1]:
        if is_undone:
            rows.append(led_past(rest_of(row), turns))
            turns -= 1
        else:
            rows.append(led_past(row, turns))
    return gathered(strands, turns, rows[::-1], {})


def rest_of(row):
    """Returns the row that makes the half turn with this row behind it."""
    rest = list(row)
    for place, strand in enumerate(row):
        rest[strand] = len(row) - 1 - place
    return tuple(rest)


def led_past(row, turns):
    """Returns the row that stands behind so many half turns if this row stood ahead of them."""
    if turns & 1:
        return tuple([len(row) - 1 - strand for strand in row[::-1]])
    return row


def gathered(strands, turns, rows, known):
    """Returns the normal form of so many half turns with any rows behind them.

    What two rows become beside one another is kept in the dict that is passed.
    """
    plain = plain_row(strands)
    half = half_turn(strands)
    found = []
    for row in rows:
        _put_behind(found, row, known)
        # Only the last row can have been taken over whole.
        if found[-1] == plain:
            found.pop()
    whole = 0
    while whole < len(found) and found[whole] == half:
        whole += 1
    return turns + whole, tuple(found[whole:])


def _put_behind(rows, row, known):
    """Puts the row behind rows that may follow one another, and lets these take over what they can."""
    rows.append(row)
    at = len(rows) - 1
    while at > 0:
        ahead, rest = taken_over(rows[at - 1], rows[at], known)
        if rest == rows[at]:
            return
        rows[at - 1] = ahead
        rows[at] = rest
        at -= 1


def taken_over(row, later, known):
    """Returns two rows of the same plait, the first one with all crossings of the second that it can take over.

    What is not in the dict of known pairs yet is put there.
    """
    pair = (row, later)
    if pair not in known:
        known[pair] = _taken_over(row, later)
    return known[pair]


def _taken_over(row, later):
    """Returns what the two rows become if the first one takes over crossings until it can take none."""
    ahead = list(row)
    places = places_of(later)
    at = 1
    while at < len(ahead):
        if ahead[at - 1] < ahead[at] and places[at - 1] > places[at]:
            ahead[at - 1], ahead[at] = ahead[at], ahead[at - 1]
            places[at - 1], places[at] = places[at], places[at - 1]
            at = max(at - 1, 1)
        else:
            at += 1
    return tuple(ahead), tuple(places_of(places))
