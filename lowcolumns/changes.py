"""Changes of the cards: how much the tops grow (negative: shrink)."""

from lowcolumns.checks import MOST_CARDS, check_height, check_index
from lowcolumns.errors import InvalidCardsError
from lowcolumns.layouts import check_start_and_cards, tops_of


def with_item(items, index, item):
    """Return a new list in which the item stands at the index."""
    return items[:index] + [item] + items[index:]


def without_item(items, index):
    """Return a new list without the item at the index."""
    return items[:index] + items[index + 1:]


def with_moved_item(items, index, place):
    """Return a new list in which the item at the index is moved, so that its index is the place."""
    return with_item(without_item(items, index), place, items[index])


def with_other_item(items, index, item):
    """Return a new list in which another item stands at the index."""
    return with_item(without_item(items, index), index, item)


def growths(before, after):
    """Return how much each integer of a list has grown."""
    return [new - old for old, new in zip(before, after)]


def effect_of_insert(start, heights, index, height):
    """Return the growths of the tops of the other cards if a card is put in ahead of the index, or at the end."""
    check_start_and_cards(start, heights)
    if len(heights) >= MOST_CARDS:
        raise InvalidCardsError("no card can be put in: there are 200 cards already")
    check_index(index, len(heights) + 1)
    check_height(height)
    after = tops_of(start, with_item(heights, index, height))
    return growths(tops_of(start, heights), without_item(after, index))


def effect_of_remove(start, heights, index):
    """Return the growths of the tops of the other cards if a card is taken out."""
    check_start_and_cards(start, heights)
    check_index(index, len(heights))
    before = without_item(tops_of(start, heights), index)
    return growths(before, tops_of(start, without_item(heights, index)))


def effect_of_move(start, heights, index, place):
    """Return the growths of the tops of the other cards if a card is moved so that its index is the place."""
    check_start_and_cards(start, heights)
    check_index(index, len(heights))
    check_index(place, len(heights))
    before = without_item(tops_of(start, heights), index)
    after = tops_of(start, with_moved_item(heights, index, place))
    return growths(before, without_item(after, place))


def effect_of_stretch(start, heights, index, height):
    """Return the growth at each index of the list of tops if a card gets another height."""
    check_start_and_cards(start, heights)
    check_index(index, len(heights))
    check_height(height)
    return growths(tops_of(start, heights), tops_of(start, with_other_item(heights, index, height)))


def effect_of_exchange(start, heights, index):
    """Return the growth at each index of the list of tops if a card and the next one are exchanged."""
    check_start_and_cards(start, heights)
    # The last card has no next one.
    check_index(index, len(heights) - 1)
    return growths(tops_of(start, heights), tops_of(start, with_moved_item(heights, index, index + 1)))
