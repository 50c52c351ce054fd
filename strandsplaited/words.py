"""Letters and words: tuples of the crossings of neighbouring strands."""

MOST_STRANDS = 8


def is_word(strands, word):
    """Tells whether each integer of the tuple is a letter of so many strands."""
    return all([letter != 0 and abs(letter) < strands for letter in word])


def undone(word):
    """Returns the word that takes back what the word does."""
    return tuple([-letter for letter in word[::-1]])


def mirrored(word):
    """Returns the word with each letter in the other sense."""
    return tuple([-letter for letter in word])


def turned_back(word):
    """Returns the word with its letters in the opposite order."""
    return word[::-1]


def shifted(word):
    """Returns the word with each crossing one place further on; it is of one strand more."""
    return tuple([letter + 1 if letter > 0 else letter - 1 for letter in word])


def flipped(strands, word):
    """Returns the word with the places counted from the other side."""
    return tuple([strands - letter if letter > 0 else -strands - letter for letter in word])


def total(word):
    """Returns the number of positive letters less that of negative ones."""
    return sum([1 if letter > 0 else -1 for letter in word])
