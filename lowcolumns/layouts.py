"""Layouts of cards: each card goes into the column that is lowest so far."""

from lowcolumns.checks import MOST_CARDS, MOST_COLUMNS, MOST_HEIGHT, is_integer_within, is_list_of_integers
from lowcolumns.errors import InvalidCardsError, InvalidColumnError, InvalidFlagError, InvalidStartError


def is_start(value):
    """Return whether any value is a start."""
    return is_list_of_integers(value, 1, MOST_COLUMNS, 0, MOST_HEIGHT)


def is_cards(value):
    """Return whether any value is cards."""
    return is_list_of_integers(value, 0, MOST_CARDS, 1, MOST_HEIGHT)


def check_start(start):
    """Raise an error if the value is not a start."""
    if not is_start(start):
        raise InvalidStartError("a start is a list of 1 to 30 integers from 0 to 10 ** 30")


def check_cards(heights):
    """Raise an error if the value is not cards."""
    if not is_cards(heights):
        raise InvalidCardsError("cards are a list of 0 to 200 integers from 1 to 10 ** 30")


def check_start_and_cards(start, heights):
    """Raise an error for the first of the two values that is wrong."""
    check_start(start)
    check_cards(heights)


def lowest_column(columns, right):
    """Return the left one, or else the right one, of the lowest columns."""
    lowest = min(columns)
    if right:
        return len(columns) - 1 - columns[::-1].index(lowest)
    return columns.index(lowest)


def lay_cards(start, heights, right):
    """Return the list of the tuples (column, top) of the cards, and the end."""
    columns = list(start)
    places = []
    for height in heights:
        column = lowest_column(columns, right)
        top = columns[column]
        places.append((column, top))
        columns[column] = top + height
    return places, columns


def layout(start, heights, *, right=False):
    """Return the list of the tuples (column, top) of the cards."""
    check_start_and_cards(start, heights)
    if not isinstance(right, bool):
        raise InvalidFlagError("right is True or False")
    places, _ = lay_cards(start, heights, right)
    return places


def tops_of(start, heights):
    """Return the list of the tops of the cards."""
    check_start_and_cards(start, heights)
    places, _ = lay_cards(start, heights, False)
    return [top for column, top in places]


def end_of(start, heights):
    """Return the list of the heights of the columns after the last card."""
    check_start_and_cards(start, heights)
    _, columns = lay_cards(start, heights, False)
    return columns


def steps(start, heights):
    """Yield the lists of the heights of the columns before the first card and after each card."""
    check_start_and_cards(start, heights)
    # Between two results the caller may change its lists, so both are copied before the first one.
    columns = list(start)
    cards = list(heights)
    yield list(columns)
    for height in cards:
        column = lowest_column(columns, False)
        columns[column] = columns[column] + height
        yield list(columns)


def cards_in(start, heights, column):
    """Return the ascending list of the cards in a column."""
    check_start_and_cards(start, heights)
    if not is_integer_within(column, 0, len(start) - 1):
        raise InvalidColumnError("there is no such column")
    places, _ = lay_cards(start, heights, False)
    return [card for card, place in enumerate(places) if place[0] == column]
