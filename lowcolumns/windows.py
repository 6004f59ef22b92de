"""Windows: which cards stand between two heights, or at one."""

from lowcolumns.checks import MOST_NUMBER, check_number
from lowcolumns.errors import InvalidNumberError
from lowcolumns.layouts import check_start_and_cards, lay_cards


def check_window(low, high):
    """Raise an error if the values are not the borders of a window."""
    check_number(low, MOST_NUMBER)
    check_number(high, MOST_NUMBER)
    if high <= low:
        raise InvalidNumberError("the upper border must be greater than the lower one")


def spans_of(start, heights):
    """Return the list of the tuples (column, top, bottom) of the cards."""
    places, _ = lay_cards(start, heights, False)
    return [(column, top, top + height) for (column, top), height in zip(places, heights)]


def cards_between(spans, low, high):
    """Return the ascending list of the cards that are visible between low and high."""
    return [card for card, (column, top, bottom) in enumerate(spans) if top < high and bottom > low]


def visible(start, heights, low, high):
    """Return the ascending list of the cards that are visible between low and high."""
    check_start_and_cards(start, heights)
    check_window(low, high)
    return cards_between(spans_of(start, heights), low, high)


def first_from(start, heights, level):
    """Return the first card whose top is at least the level, or None."""
    check_start_and_cards(start, heights)
    check_number(level, MOST_NUMBER)
    for card, (column, top, bottom) in enumerate(spans_of(start, heights)):
        if top >= level:
            return card
    return None


def cards_at(start, heights, level):
    """Return a list with the card at the level, or None, for each column."""
    check_start_and_cards(start, heights)
    check_number(level, MOST_NUMBER)
    cards = [None] * len(start)
    for card, (column, top, bottom) in enumerate(spans_of(start, heights)):
        if top <= level < bottom:
            cards[column] = card
    return cards


def screens(start, heights, high):
    """Yield the lists of the visible cards between 0 and high, high and 2 * high and so on."""
    check_start_and_cards(start, heights)
    check_window(0, high)
    spans = spans_of(start, heights)
    # A column of the start without cards may stand lower than all cards; it needs no screen.
    greatest = max([bottom for column, top, bottom in spans], default=0)
    low = 0
    yield cards_between(spans, 0, high)
    while low + high < greatest:
        low = low + high
        yield cards_between(spans, low, low + high)
