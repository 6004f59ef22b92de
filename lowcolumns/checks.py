"""Limits and checks of arguments that the files of the package share."""

from lowcolumns.errors import InvalidColumnsError, InvalidHeightError, InvalidIndexError, InvalidNumberError

MOST_COLUMNS = 30
MOST_CARDS = 200
MOST_HEIGHT = 10 ** 30
MOST_NUMBER = 10 ** 30


def is_integer_within(value, least, greatest):
    """Return whether any value is an integer from least to greatest."""
    # True and False are instances of int, but no integers for this package.
    if not isinstance(value, int) or isinstance(value, bool):
        return False
    return least <= value <= greatest


def is_list_of_integers(value, fewest, most, least, greatest):
    """Return whether any value is a list of fewest to most integers from least to greatest."""
    # Exactly a list is asked for, so an instance of a subclass is none.
    if type(value) == list and fewest <= len(value) <= most:
        return all([is_integer_within(item, least, greatest) for item in value])
    return False


def is_one_height(value):
    """Return whether any value is a height."""
    return is_integer_within(value, 1, MOST_HEIGHT)


def check_columns(columns):
    """Raise an error if the value is not a number of columns."""
    if not is_integer_within(columns, 1, MOST_COLUMNS):
        raise InvalidColumnsError("a number of columns is an integer from 1 to 30")


def check_height(height):
    """Raise an error if the value is not a height."""
    if not is_one_height(height):
        raise InvalidHeightError("a height is an integer from 1 to 10 ** 30")


def check_index(index, many):
    """Raise an error if the value is not an integer from 0 to less than many."""
    if not is_integer_within(index, 0, many - 1):
        raise InvalidIndexError("there is no such index")


def check_number(number, greatest):
    """Raise an error if the value is not an integer from 0 to greatest."""
    if not is_integer_within(number, 0, greatest):
        raise InvalidNumberError("the number is no integer or not within its bounds")
