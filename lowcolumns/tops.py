"""Observed tops: whether cards can have them, and in which columns these cards can stand."""

from math import comb

from lowcolumns.checks import MOST_CARDS, MOST_NUMBER, check_columns, check_number, is_list_of_integers
from lowcolumns.errors import InvalidTopsError, InvalidWayError


def check_columns_and_tops(columns, tops):
    """Raise an error for the first of the two values that is wrong."""
    check_columns(columns)
    if not is_list_of_integers(tops, 0, MOST_CARDS, 0, MOST_NUMBER - 1):
        raise InvalidTopsError("tops are a list of 0 to 200 integers from 0 to 10 ** 30 - 1")


def can_follow(columns, tops, index):
    """Return whether the top at the index can come after the tops before it, if these are possible."""
    # Each column begins with 0 and takes the first card that finds it there.
    if index < columns:
        return tops[index] == 0
    # A top stands in each column at most once, as a card has a height of at least 1.
    return tops[index - 1] <= tops[index] and tops[index - columns] < tops[index]


def first_fault(columns, tops):
    """Return the least index with which the tops are not possible, or None."""
    for index in range(len(tops)):
        if not can_follow(columns, tops, index):
            return index
    return None


def is_possible(columns, tops):
    """Return whether the tops are the tops of some cards."""
    check_columns_and_tops(columns, tops)
    return first_fault(columns, tops) is None


def fault(columns, tops):
    """Return None for possible tops, otherwise the least index up to which they are not possible."""
    check_columns_and_tops(columns, tops)
    return first_fault(columns, tops)


def set_sizes(columns, tops):
    """Return, for each top that is not 0, how many cards have it: so many columns are their set."""
    sizes = []
    # Of possible tops, just those of the first cards are 0, one in each column.
    for index in range(columns, len(tops)):
        if tops[index] == tops[index - 1]:
            sizes[-1] = sizes[-1] + 1
        else:
            sizes.append(1)
    return sizes


def ways_of(columns, tops):
    """Return the number of ways of any tops."""
    if first_fault(columns, tops) is not None:
        return 0
    many = 1
    for size in set_sizes(columns, tops):
        many = many * comb(columns, size)
    return many


def count_ways(columns, tops):
    """Return the number of ways, 0 if the tops are not possible."""
    check_columns_and_tops(columns, tops)
    return ways_of(columns, tops)


def nth_set(columns, size, number):
    """Return the ascending list of so many columns that has this index among all such lists."""
    chosen = []
    rest = number
    column = 0
    while len(chosen) < size:
        # So many lists go on with this column.
        many = comb(columns - column - 1, size - len(chosen) - 1)
        if rest < many:
            chosen.append(column)
        else:
            rest -= many
        column += 1
    return chosen


def rank_set(columns, chosen):
    """Return the index of an ascending list of columns among all such lists of its length."""
    rank = 0
    place = 0
    for column in range(chosen[-1]):
        if column == chosen[place]:
            place += 1
        else:
            # So many lists go on with this column and come before the one that does not.
            rank += comb(columns - column - 1, len(chosen) - place - 1)
    return rank


def nth_way(columns, tops, number):
    """Return the way with this index."""
    check_columns_and_tops(columns, tops)
    check_number(number, ways_of(columns, tops) - 1)
    rest = number
    chosen = []
    # The set of the last top changes most often from way to way, so it is split off first.
    for size in reversed(set_sizes(columns, tops)):
        rest, index = divmod(rest, comb(columns, size))
        chosen = nth_set(columns, size, index) + chosen
    # The columns that begin with 0 are filled from left to right.
    return list(range(min(columns, len(tops)))) + chosen


def is_way(columns, tops, way):
    """Return whether any value is a way of the tops."""
    if first_fault(columns, tops) is not None:
        return False
    if not is_list_of_integers(way, len(tops), len(tops), 0, columns - 1):
        return False
    if way[:columns] != list(range(min(columns, len(tops)))):
        return False
    # Cards with the same top go from left to right.
    return all([
        tops[index - 1] < tops[index] or way[index - 1] < way[index] for index in range(columns, len(tops))
    ])


def check_way(columns, tops, way):
    """Raise an error if the value is not a way of the tops."""
    if not is_way(columns, tops, way):
        raise InvalidWayError("the value is not a way of the tops")


def rank_way(columns, tops, way):
    """Return the index of the way."""
    check_columns_and_tops(columns, tops)
    check_way(columns, tops, way)
    rank = 0
    first = columns
    for size in set_sizes(columns, tops):
        rank = rank * comb(columns, size) + rank_set(columns, way[first:first + size])
        first += size
    return rank


def cards_of_way(columns, tops, way):
    """Return the heights of the cards with these tops and this way, which end at the last top plus 1."""
    check_columns_and_tops(columns, tops)
    check_way(columns, tops, way)
    heights = [0] * len(tops)
    # From the last card to the first one, the bottoms that the next cards of the columns must have.
    bottoms = [max(tops, default=0) + 1] * columns
    for index in reversed(range(len(tops))):
        column = way[index]
        heights[index] = bottoms[column] - tops[index]
        bottoms[column] = tops[index]
    return heights
