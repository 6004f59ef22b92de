"""Comparisons of two starts with the same number of columns."""

from lowcolumns.changes import growths
from lowcolumns.errors import DifferentColumnsError
from lowcolumns.layouts import check_cards, check_start, steps


def check_starts(start, other):
    """Raise an error if one of the values is not a start, or if their numbers of columns differ."""
    check_start(start)
    check_start(other)
    if len(start) != len(other):
        raise DifferentColumnsError("the starts have different numbers of columns")


def gap_of(columns, others):
    """Return the least and the greatest difference of the sorted heights of other columns and of the columns."""
    differences = growths(sorted(columns), sorted(others))
    return min(differences), max(differences)


def gap_between(start, other):
    """Return the tuple (least, greatest) of the differences of the sorted starts, place by place."""
    check_starts(start, other)
    return gap_of(start, other)


def gaps_along(start, other, heights):
    """Yield the tuples (least, greatest) for the columns before the first card and after each card."""
    check_starts(start, other)
    check_cards(heights)
    for columns, others in zip(steps(start, heights), steps(other, heights)):
        yield gap_of(columns, others)


def level_after(start, other, heights):
    """Return the least number of cards after which all differences are equal, or None."""
    check_starts(start, other)
    check_cards(heights)
    for many, gap in enumerate(gaps_along(start, other, heights)):
        least, greatest = gap
        if least == greatest:
            return many
    return None
