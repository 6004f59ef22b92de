"""Numbers of columns: how low the cards end, and what one column more changes."""

from lowcolumns.changes import growths
from lowcolumns.checks import MOST_COLUMNS, MOST_NUMBER, check_number
from lowcolumns.errors import InvalidStartError
from lowcolumns.layouts import check_cards, check_start, end_of, tops_of


def greatest_bottom(start, heights):
    """Return the greatest height in the end."""
    return max(end_of(start, heights))


def effect_of_column(start, heights, extra):
    """Return the growths of the tops if a further column of the height extra stands to the right of the others."""
    check_start(start)
    if len(start) >= MOST_COLUMNS:
        raise InvalidStartError("no column can be put in: there are 30 columns already")
    check_cards(heights)
    check_number(extra, MOST_NUMBER)
    return growths(tops_of(start, heights), tops_of(start + [extra], heights))


def bottoms_by_columns(heights):
    """Yield the greatest bottoms for one, two, .. and thirty columns that begin with 0."""
    check_cards(heights)
    # Between two results the caller may change its list, so it is copied before the first one.
    cards = list(heights)
    for many in range(1, MOST_COLUMNS + 1):
        yield greatest_bottom([0] * many, cards)


def fewest_columns(heights, limit):
    """Return the least number of columns with which no bottom is greater than the limit, or None."""
    check_cards(heights)
    check_number(limit, MOST_NUMBER)
    for many, bottom in enumerate(bottoms_by_columns(heights), start=1):
        if bottom <= limit:
            return many
    return None


def lowest_bounds(start, heights):
    """Return the tuple (least, greatest) of integers between which the lowest column of the end must be."""
    end = end_of(start, heights)
    total = sum(end)
    many = len(start)
    # In the end the highest column stands out over the lowest one by no more than this.
    most = max(max(heights, default=0), max(start) - min(start))
    # Rounding the negative number down rounds the number itself up.
    least = -(((many - 1) * most - total) // many)
    return least, total // many
