"""Point 10, with points 3 to 8 as far as they concern lowcolumns/changes.py."""

import unittest

from lowcolumns.changes import (
    effect_of_exchange, effect_of_insert, effect_of_move, effect_of_remove, effect_of_stretch,
)
from lowcolumns.errors import InvalidCardsError, InvalidHeightError, InvalidIndexError
from tests.support import (
    H, LARGE, NO_INTEGERS, WRONG, WRONG_HEIGHTS, Z, FunctionCase, plain_tops, small_samples, wide_samples,
    wrong_indexes,
)

EXAMPLE = """
>>> from lowcolumns.changes import effect_of_exchange, effect_of_insert, effect_of_move, effect_of_remove
>>> Z, H = [0, 0, 0], [5, 2, 4, 3, 1, 2]
>>> [effect_of_insert(Z, H, 2, 3), effect_of_exchange(Z, H, 2)]
[[0, 0, 2, 1, 1, 1], [0, 0, 0, 0, -1, -1]]
>>> [effect_of_remove([0], [4, 1, 2], 0), effect_of_move([0], [4, 1, 2], 0, 2)]
[[-4, -4], [-4, -4]]
"""


def growth_by_card(start, heights, order, changed_heights):
    """Return the growths of the tops of the cards that stand in both, in their old order.

    `order` names the cards in their new order; None is a new card.
    """
    before, after = plain_tops(start, heights), plain_tops(start, changed_heights)
    return [after[order.index(card)] - before[card] for card in range(len(heights)) if card in order]


def plain_insert(start, heights, index, height):
    order, changed = list(range(len(heights))), list(heights)
    order.insert(index, None)
    changed.insert(index, height)
    return growth_by_card(start, heights, order, changed)


def plain_remove(start, heights, index):
    order = [card for card in range(len(heights)) if card != index]
    return growth_by_card(start, heights, order, [heights[card] for card in order])


def plain_move(start, heights, index, place):
    order = [card for card in range(len(heights)) if card != index]
    order.insert(place, index)
    growths = growth_by_card(start, heights, order, [heights[card] for card in order])
    return [growth for card, growth in enumerate(growths) if card != index]


def plain_by_place(start, heights, changed):
    return [new - old for old, new in zip(plain_tops(start, heights), plain_tops(start, changed))]


def plain_stretch(start, heights, index, height):
    changed = list(heights)
    changed[index] = height
    return plain_by_place(start, heights, changed)


def plain_exchange(start, heights, index):
    changed = list(heights)
    changed[index], changed[index + 1] = changed[index + 1], changed[index]
    return plain_by_place(start, heights, changed)


def indexes_to_try(many):
    """Return all indexes of few things, otherwise the first, the last and some between."""
    return range(many) if many < 10 else sorted({0, 1, many // 3, many // 2, many - 2, many - 1})


class ChangesTest(FunctionCase):

    def test_example_of_the_document(self):
        self.assert_example(EXAMPLE)

    def test_interface(self):
        for function, signature in (
            (effect_of_insert, "(start, heights, index, height)"),
            (effect_of_remove, "(start, heights, index)"),
            (effect_of_move, "(start, heights, index, place)"),
            (effect_of_stretch, "(start, heights, index, height)"),
            (effect_of_exchange, "(start, heights, index)"),
        ):
            self.assert_interface(function, "lowcolumns.changes", signature)

    def test_small_samples_change_as_by_hand(self):
        for start, heights in small_samples(3):
            self.assert_changes(start, heights, (1, 2, 4))

    def test_wide_samples_change_as_by_hand(self):
        for start, heights in wide_samples():
            self.assert_changes(start, heights, (1, 17, LARGE))

    def assert_changes(self, start, heights, others):
        many = len(heights)
        if many < 200:
            for index in indexes_to_try(many + 1):
                for height in others:
                    expected = plain_insert(start, heights, index, height)
                    self.assertEqual(effect_of_insert(start, heights, index, height), expected)
        for index in indexes_to_try(many):
            self.assertEqual(effect_of_remove(start, heights, index), plain_remove(start, heights, index))
            for place in indexes_to_try(many):
                expected = plain_move(start, heights, index, place)
                self.assertEqual(effect_of_move(start, heights, index, place), expected)
            for height in others:
                expected = plain_stretch(start, heights, index, height)
                self.assertEqual(effect_of_stretch(start, heights, index, height), expected)
        for index in indexes_to_try(max(many - 1, 0)):
            self.assertEqual(effect_of_exchange(start, heights, index), plain_exchange(start, heights, index))

    def test_insert_at_the_first_and_the_last_index_and_at_the_end(self):
        self.assertEqual(effect_of_insert([0], [4, 1, 2], 0, 3), [3, 3, 3])
        self.assertEqual(effect_of_insert([0], [4, 1, 2], 2, 3), [0, 0, 3])
        self.assertEqual(effect_of_insert([0], [4, 1, 2], 3, 3), [0, 0, 0])
        self.assertEqual(effect_of_insert([0, 0], [], 0, 3), [])
        self.assertEqual(effect_of_insert([0] * 30, [1] * 30, 0, 1), [0] * 29 + [1])

    def test_insert_of_the_least_and_the_greatest_height(self):
        self.assertEqual(effect_of_insert([0], [LARGE], 0, 1), [1])
        self.assertEqual(effect_of_insert([LARGE], [1], 0, LARGE), [LARGE])
        self.assertEqual(effect_of_insert([0, LARGE], [1, 1], 0, LARGE), [LARGE, LARGE - 1])

    def test_insert_with_199_cards(self):
        self.assertEqual(effect_of_insert([0], [1] * 199, 0, 2), [2] * 199)
        self.assertEqual(effect_of_insert([0], [1] * 199, 199, 2), [0] * 199)

    def test_remove_the_first_and_the_last_card(self):
        self.assertEqual(effect_of_remove([0], [4, 1, 2], 2), [0, 0])
        self.assertEqual(effect_of_remove([0], [4, 1, 2], 1), [0, -1])
        self.assertEqual(effect_of_remove([5], [LARGE], 0), [])
        self.assertEqual(effect_of_remove([LARGE] * 30, [LARGE] * 200, 199), [0] * 199)
        self.assertEqual(effect_of_remove([0], [LARGE] * 200, 0), [-LARGE] * 199)

    def test_move_there_and_back(self):
        self.assertEqual(effect_of_move([0], [4, 1, 2], 2, 0), [2, 2])
        self.assertEqual(effect_of_move([0], [4, 1, 2], 0, 1), [-4, 0])
        self.assertEqual(effect_of_move([0], [4, 1, 2], 1, 0), [1, 0])
        self.assertEqual(effect_of_move([0], [1] * 199 + [LARGE], 199, 0), [LARGE] * 199)

    def test_move_to_the_same_place(self):
        for index in range(6):
            self.assertEqual(effect_of_move(Z, H, index, index), [0] * 5)
        self.assertEqual(effect_of_move([3], [1], 0, 0), [])

    def test_stretch_the_first_and_the_last_card(self):
        self.assertEqual(effect_of_stretch([0], [4, 1, 2], 0, LARGE), [0, LARGE - 4, LARGE - 4])
        self.assertEqual(effect_of_stretch([0], [4, 1, 2], 0, 1), [0, -3, -3])
        self.assertEqual(effect_of_stretch([0], [4, 1, 2], 2, LARGE), [0, 0, 0])
        self.assertEqual(effect_of_stretch(Z, H, 1, 2), [0] * 6)
        self.assertEqual(effect_of_stretch([0], [1] * 200, 198, 3), [0] * 199 + [2])

    def test_exchange_the_first_and_the_last_cards(self):
        self.assertEqual(effect_of_exchange([0], [4, 1, 2], 0), [0, -3, 0])
        self.assertEqual(effect_of_exchange([0], [4, 1, 2], 1), [0, 0, 1])
        self.assertEqual(effect_of_exchange(Z, H, 4), [0] * 6)
        self.assertEqual(effect_of_exchange([0], [1] * 199 + [2], 198), [0] * 199 + [1])

    def test_kinds_of_results(self):
        for made in (
            effect_of_insert(Z, H, 0, 1), effect_of_remove(Z, H, 0), effect_of_move(Z, H, 0, 1),
            effect_of_stretch(Z, H, 0, 1), effect_of_exchange(Z, H, 0),
        ):
            self.assertEqual([type(made)] + [type(growth) for growth in made], [list] + [int] * len(made))

    def test_arguments_are_kept_and_results_are_new(self):
        for start, heights in ((Z, H), ([7], [1, 1]), ([LARGE, 0], [LARGE, 1, 1]), ([0] * 30, [2] * 199)):
            pair = {"start": list(start), "heights": list(heights)}
            self.assert_arguments_kept(effect_of_insert, {**pair, "index": 1, "height": 9})
            self.assert_arguments_kept(effect_of_remove, {**pair, "index": 1})
            self.assert_arguments_kept(effect_of_move, {**pair, "index": 1, "place": 0})
            self.assert_arguments_kept(effect_of_stretch, {**pair, "index": 1, "height": 9})
            self.assert_arguments_kept(effect_of_exchange, {**pair, "index": 0})


class WrongChangesTest(FunctionCase):

    def test_insert(self):
        good = {"start": Z, "heights": H, "index": 6, "height": 3}
        self.assert_errors(effect_of_insert, good, {**WRONG, "index": wrong_indexes(7)})
        good = {"start": Z, "heights": [], "index": 0, "height": 3}
        self.assert_errors(effect_of_insert, good, {**WRONG, "index": wrong_indexes(1)})

    def test_remove(self):
        good = {"start": Z, "heights": H, "index": 5}
        self.assert_errors(effect_of_remove, good, {**WRONG, "index": wrong_indexes(6)})

    def test_move(self):
        good = {"start": Z, "heights": H, "index": 5, "place": 0}
        self.assert_errors(effect_of_move, good, {**WRONG, "index": wrong_indexes(6), "place": wrong_indexes(6)})
        good = {"start": Z, "heights": H, "index": 0, "place": 5}
        self.assert_errors(effect_of_move, good, {**WRONG, "index": wrong_indexes(6), "place": wrong_indexes(6)})

    def test_stretch(self):
        good = {"start": Z, "heights": H, "index": 5, "height": 3}
        self.assert_errors(effect_of_stretch, good, {**WRONG, "index": wrong_indexes(6)})

    def test_exchange(self):
        good = {"start": Z, "heights": H, "index": 4}
        self.assert_errors(effect_of_exchange, good, {**WRONG, "index": wrong_indexes(5)})

    def test_insert_with_200_cards(self):
        full = {"start": Z, "heights": [1] * 200}
        for index in [0, 200] + NO_INTEGERS:
            for height in (1, 0, None, True):
                arguments = {**full, "index": index, "height": height}
                self.assert_raises_exactly(InvalidCardsError, effect_of_insert, arguments)

    def test_the_start_comes_before_200_cards(self):
        error, values = WRONG["start"]
        for start in values:
            arguments = {"start": start, "heights": [1] * 200, "index": -1, "height": 0}
            self.assert_raises_exactly(error, effect_of_insert, arguments)

    def test_200_cards_are_enough_for_the_others(self):
        full = [2] * 200
        self.assertEqual(len(effect_of_remove(Z, full, 199)), 199)
        self.assertEqual(len(effect_of_move(Z, full, 199, 0)), 199)
        self.assertEqual(len(effect_of_stretch(Z, full, 199, 1)), 200)
        self.assertEqual(len(effect_of_exchange(Z, full, 198)), 200)
        for function, last in ((effect_of_remove, 199), (effect_of_exchange, 198)):
            arguments = {"start": Z, "heights": full, "index": last + 1}
            self.assert_raises_exactly(InvalidIndexError, function, arguments)

    def test_too_few_cards(self):
        for index in (-1, 0, 1):
            empty = {"start": Z, "heights": [], "index": index}
            self.assert_raises_exactly(InvalidIndexError, effect_of_remove, empty)
            self.assert_raises_exactly(InvalidIndexError, effect_of_exchange, empty)
            self.assert_raises_exactly(InvalidIndexError, effect_of_exchange, {**empty, "heights": [4]})
            self.assert_raises_exactly(InvalidIndexError, effect_of_move, {**empty, "place": 0})
            self.assert_raises_exactly(InvalidIndexError, effect_of_stretch, {**empty, "height": 0})

    def test_index_and_place_are_checked_before_the_height(self):
        for height in WRONG_HEIGHTS:
            for function, last in ((effect_of_insert, 6), (effect_of_stretch, 5)):
                arguments = {"start": Z, "heights": H, "index": last, "height": height}
                self.assert_raises_exactly(InvalidHeightError, function, arguments)
                arguments["index"] = last + 1
                self.assert_raises_exactly(InvalidIndexError, function, arguments)


if __name__ == "__main__":
    unittest.main()
