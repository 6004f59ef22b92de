"""The errors of the package: one class for each kind of wrong value or state."""


class LowcolumnsError(ValueError):
    """Any error that the package raises."""


class InvalidStartError(LowcolumnsError):
    """The value is not a start."""


class InvalidCardsError(LowcolumnsError):
    """The value is not cards, or not as many as the function takes."""


class InvalidHeightError(LowcolumnsError):
    """The value is not a height."""


class InvalidIndexError(LowcolumnsError):
    """The value is not an index, or not a place, that the function takes."""


class InvalidColumnError(LowcolumnsError):
    """The value is not the number of one of the columns."""


class InvalidColumnsError(LowcolumnsError):
    """The value is not a number of columns."""


class InvalidNumberError(LowcolumnsError):
    """The value is not an integer within the bounds of its parameter."""


class InvalidFlagError(LowcolumnsError):
    """The value is neither True nor False."""


class InvalidTopsError(LowcolumnsError):
    """The value is not a list of tops."""


class InvalidWayError(LowcolumnsError):
    """The value is not a way of the tops."""


class InvalidFormatError(LowcolumnsError):
    """The value is not the string of a start and cards."""


class DifferentColumnsError(LowcolumnsError):
    """Two starts have different numbers of columns."""


class TooLargeError(LowcolumnsError):
    """The cards are too many, or the columns too high, for a picture."""


class FullError(LowcolumnsError):
    """A wall would have too many cards."""


class EmptyHistoryError(LowcolumnsError):
    """A wall has no call that could be undone."""
