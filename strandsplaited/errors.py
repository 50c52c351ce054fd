"""The errors that the program raises."""


class PlaitError(ValueError):
    """The base class of all errors of the program."""


class BadMove(PlaitError):
    """What was passed is no move, or it cannot be made on the word."""


class BadText(PlaitError):
    """A text has not the form that is asked for."""


class NoPlait(PlaitError):
    """What was asked for does not exist."""
