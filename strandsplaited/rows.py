"""Rows: the orders in which the strands can lie, and the plaits of positive letters that lead there the short way."""


def plain_row(strands):
    """Returns the row in which each strand lies at its own place."""
    return tuple(range(strands))


def half_turn(strands):
    """Returns the row in which the strands lie in the opposite order."""
    return plain_row(strands)[::-1]


def row_of(strands, word):
    """Returns the row behind the word."""
    row = list(range(strands))
    for letter in word:
        at = abs(letter)
        row[at - 1], row[at] = row[at], row[at - 1]
    return tuple(row)


def crossings(row):
    """Returns how many pairs of strands there are of which the greater one lies at a lesser place."""
    return sum([1 for place, strand in enumerate(row) for later in row[place + 1:] if strand > later])


def places_of(row):
    """Returns the list of the places at which the strands lie, from the strand 0 on."""
    places = [0] * len(row)
    for place, strand in enumerate(row):
        places[strand] = place
    return places


def starts(row):
    """Returns the ascending list of the letters with which the row begins."""
    places = places_of(row)
    return [letter for letter in range(1, len(row)) if places[letter - 1] > places[letter]]


def ends(row):
    """Returns the ascending list of the letters with which the row ends."""
    return [letter for letter in range(1, len(row)) if row[letter - 1] > row[letter]]


def followed(row, other):
    """Returns the row behind the words of both rows, the second one behind the first one."""
    return tuple([row[place] for place in other])


def word_of_row(row):
    """Returns the first one of the row's wordings in the order of tuples."""
    places = places_of(row)
    word = []
    letter = 1
    while letter < len(places):
        if places[letter - 1] > places[letter]:
            word.append(letter)
            places[letter - 1], places[letter] = places[letter], places[letter - 1]
            # All lesser letters were none to begin with; only the one before can have become one.
            letter = max(letter - 1, 1)
        else:
            letter += 1
    return tuple(word)
