"""Feeds: a block of cards is repeated without end."""

from lowcolumns.checks import MOST_NUMBER, check_number, is_list_of_integers
from lowcolumns.errors import InvalidCardsError, InvalidStartError
from lowcolumns.layouts import lay_cards, lowest_column

MOST_FEED_COLUMNS = 4
MOST_BLOCK_CARDS = 30
MOST_FEED_HEIGHT = 9
MOST_CARD_NUMBER = 5 * 10 ** 30


def check_feed(start, block):
    """Raise an error for the first of the two values that is no start, or no block, of a feed."""
    if not is_list_of_integers(start, 1, MOST_FEED_COLUMNS, 0, MOST_FEED_HEIGHT):
        raise InvalidStartError("the start of a feed is a list of 1 to 4 integers from 0 to 9")
    if not is_list_of_integers(block, 1, MOST_BLOCK_CARDS, 1, MOST_FEED_HEIGHT):
        raise InvalidCardsError("a block is a list of 1 to 30 integers from 1 to 9")


def after_round(columns, block):
    """Return a new list of the heights of the columns after one more round."""
    _, end = lay_cards(columns, block, False)
    return end


def rounds(start, block):
    """Yield the lists of the heights of the columns after 0, 1, 2 and so on rounds, without end."""
    check_feed(start, block)
    # Between two results the caller may change its lists, so both are copied before the first one.
    columns = list(start)
    cards = list(block)
    while True:
        yield list(columns)
        columns = after_round(columns, cards)


def differences_of(columns):
    """Return the tuple of the differences of each column to the lowest one."""
    lowest = min(columns)
    return tuple([height - lowest for height in columns])


def ends_until_return(start, block):
    """Return the heights after 0, 1, 2 .. rounds, up to the first ones whose differences have come before."""
    ends = [list(start)]
    seen = {}
    # No difference is greater than 9, so there are only some thousands of them.
    while differences_of(ends[-1]) not in seen:
        seen[differences_of(ends[-1])] = True
        ends.append(after_round(ends[-1], block))
    return ends


def repetition_in(ends):
    """Return the tuple (first, period, growth) of heights of which the last ones have come before."""
    first = [differences_of(end) for end in ends].index(differences_of(ends[-1]))
    return first, len(ends) - 1 - first, ends[-1][0] - ends[first][0]


def return_of(start, block):
    """Return after how many rounds differences come that come again, after how many more, and the growth until then."""
    check_feed(start, block)
    return repetition_in(ends_until_return(start, block))


def heights_after(start, block, count):
    """Return the heights of the columns after any number of rounds."""
    ends = ends_until_return(start, block)
    first, period, growth = repetition_in(ends)
    if count < first:
        return ends[count]
    periods, rest = divmod(count - first, period)
    return [height + periods * growth for height in ends[first + rest]]


def end_after_rounds(start, block, count):
    """Return the heights of the columns after count rounds."""
    check_feed(start, block)
    check_number(count, MOST_NUMBER)
    return heights_after(start, block, count)


def card_of_feed(start, block, number):
    """Return the tuple (column, top) of a card of the feed."""
    check_feed(start, block)
    check_number(number, MOST_CARD_NUMBER)
    count, card = divmod(number, len(block))
    places, _ = lay_cards(heights_after(start, block, count), block, False)
    return places[card]


def first_card_by_laying(start, block, level):
    """Return the number of the first card whose top is at least the level, laying card by card."""
    columns = list(start)
    card = 0
    while min(columns) < level:
        column = lowest_column(columns, False)
        columns[column] = columns[column] + block[card % len(block)]
        card += 1
    return card


def first_card_from(start, block, level):
    """Return the number of the first card whose top is at least the level."""
    check_feed(start, block)
    check_number(level, MOST_NUMBER)
    ends = ends_until_return(start, block)
    first, period, growth = repetition_in(ends)
    # Whole periods are left out only as long as the level stays above the first card that repeats:
    # then the card that is found repeats too, so it comes again after these periods.
    periods = max(0, (level - 1 - min(ends[first])) // growth)
    return first_card_by_laying(start, block, level - periods * growth) + periods * period * len(block)
