"""Point 11, with points 3 to 8 as far as they concern lowcolumns/columns.py."""

import math
import unittest
from fractions import Fraction

from lowcolumns.columns import bottoms_by_columns, effect_of_column, fewest_columns, greatest_bottom, lowest_bounds
from lowcolumns.errors import InvalidCardsError, InvalidNumberError, InvalidStartError
from tests.support import (
    H, LARGE, WRONG, WRONG_CARDS, WRONG_NUMBERS, Z, FunctionCase, mixed, plain_laying, plain_tops,
    small_samples, wide_samples,
)

EXAMPLE = """
>>> from lowcolumns.columns import bottoms_by_columns, effect_of_column, fewest_columns, lowest_bounds
>>> Z, H = [0, 0, 0], [5, 2, 4, 3, 1, 2]
>>> [effect_of_column(Z, H, 0), fewest_columns(H, 8), fewest_columns(H, 9), fewest_columns(H, 4), lowest_bounds(Z, H)]
[[0, 0, 0, -2, -2, -2], 3, 2, None, (3, 5)]
>>> list(bottoms_by_columns(H))[:4]
[17, 9, 7, 5]
"""

CARDS = [
    [], [1], [LARGE], H, [3, 3, 3], [1, 2, 9], [9, 2, 1], [1] * 200, [LARGE] * 200, [2] * 30, [2] * 31,
    mixed(1, 200, 1, 9), mixed(2, 200, 1, LARGE), mixed(3, 29, 1, 50), mixed(4, 60, 3, 5),
]


def plain_end(start, heights):
    return plain_laying(start, heights)[1][-1]


def plain_effect(start, heights, extra):
    before, after = plain_tops(start, heights), plain_tops(start + [extra], heights)
    return [new - old for old, new in zip(before, after)]


def plain_bottoms(heights):
    return [max(plain_end([0] * columns, heights)) for columns in range(1, 31)]


def plain_fewest(heights, limit):
    enough = [columns for columns, bottom in enumerate(plain_bottoms(heights), 1) if bottom <= limit]
    return min(enough, default=None)


def plain_bounds(start, heights):
    columns, total = len(start), sum(start) + sum(heights)
    most = max([max(start) - min(start)] + heights)
    return math.ceil(Fraction(total - (columns - 1) * most, columns)), math.floor(Fraction(total, columns))


class ColumnsTest(FunctionCase):

    def test_example_of_the_document(self):
        self.assert_example(EXAMPLE)

    def test_interface(self):
        for function, signature in (
            (greatest_bottom, "(start, heights)"),
            (effect_of_column, "(start, heights, extra)"),
            (bottoms_by_columns, "(heights)"),
            (fewest_columns, "(heights, limit)"),
            (lowest_bounds, "(start, heights)"),
        ):
            self.assert_interface(function, "lowcolumns.columns", signature)

    def test_small_samples_are_as_by_hand(self):
        for start, heights in small_samples():
            self.assertEqual(greatest_bottom(start, heights), max(plain_end(start, heights)))
            self.assertEqual(lowest_bounds(start, heights), plain_bounds(start, heights))
            for extra in (0, 1, 3):
                self.assertEqual(effect_of_column(start, heights, extra), plain_effect(start, heights, extra))

    def test_wide_samples_are_as_by_hand(self):
        for start, heights in wide_samples():
            self.assertEqual(greatest_bottom(start, heights), max(plain_end(start, heights)))
            self.assertEqual(lowest_bounds(start, heights), plain_bounds(start, heights))
            for extra in (0, 1, 30, LARGE // 2, LARGE):
                narrow = start[:29]
                self.assertEqual(effect_of_column(narrow, heights, extra), plain_effect(narrow, heights, extra))

    def test_numbers_of_columns_are_as_by_hand(self):
        for heights in CARDS:
            bottoms = plain_bottoms(heights)
            self.assertEqual(list(bottoms_by_columns(heights)), bottoms)
            for limit in sorted(set(bottoms)) + [0, 1, 5, 17, LARGE]:
                for near in (limit - 1, limit, limit + 1):
                    if 0 <= near <= LARGE:
                        self.assertEqual(fewest_columns(heights, near), plain_fewest(heights, near), (heights, near))


class GreatestBottomTest(FunctionCase):

    def test_the_greatest_height_may_be_of_the_start(self):
        self.assertEqual(greatest_bottom(Z, H), 7)
        self.assertEqual(greatest_bottom([9, 0, 0], [5]), 9)
        self.assertEqual(greatest_bottom([0, 0, 9], [5, 1]), 9)
        self.assertEqual(greatest_bottom([0, LARGE], [1] * 200), LARGE)

    def test_the_greatest_height_need_not_be_of_the_last_card(self):
        self.assertEqual(greatest_bottom([0, 0], [7, 1, 1]), 7)
        self.assertEqual(greatest_bottom([0, 0], [1, 7, 1]), 7)

    def test_no_cards_and_200(self):
        self.assertEqual(greatest_bottom([4, 6, 5], []), 6)
        self.assertEqual(greatest_bottom([0] * 30, []), 0)
        self.assertEqual(greatest_bottom([LARGE], [LARGE] * 200), 201 * LARGE)
        self.assertEqual(greatest_bottom([0] * 30, [1] * 200), 7)


class EffectOfColumnTest(FunctionCase):

    def test_the_further_column_stands_to_the_right(self):
        # Of equally low columns the left one is taken, so the further one comes last.
        self.assertEqual(effect_of_column([0, 0], [3, 3, 1], 0), [0, 0, -3])
        self.assertEqual(effect_of_column([1, 1], [3, 3, 1], 0), [-1, 0, -3])
        self.assertEqual(effect_of_column([1, 1], [3, 3, 1], 1), [0, 0, -3])

    def test_a_column_that_is_reached_late_or_never(self):
        self.assertEqual(effect_of_column([0], [2, 2, 2], 3), [0, 0, -1])
        self.assertEqual(effect_of_column([0], [2, 2, 2], 4), [0, 0, 0])
        self.assertEqual(effect_of_column([0], [1] * 200, LARGE), [0] * 200)
        self.assertEqual(effect_of_column([LARGE], [1] * 3, LARGE), [0, -1, -1])

    def test_one_column_and_29(self):
        self.assertEqual(effect_of_column([LARGE], [LARGE, 1], 0), [-LARGE, -LARGE])
        self.assertEqual(effect_of_column([0] * 29, [1] * 30, 0), [0] * 29 + [-1])
        self.assertEqual(effect_of_column([5] * 29, [1], 0), [-5])

    def test_no_cards(self):
        self.assertEqual(effect_of_column([0], [], 0), [])
        self.assertEqual(effect_of_column([LARGE] * 29, [], LARGE), [])


class NumbersOfColumnsTest(FunctionCase):

    def test_thirty_numbers_also_without_cards(self):
        self.assertEqual(list(bottoms_by_columns([])), [0] * 30)
        self.assertEqual(list(bottoms_by_columns([1])), [1] * 30)
        self.assertEqual(list(bottoms_by_columns([LARGE] * 200))[0], 200 * LARGE)
        self.assertEqual(list(bottoms_by_columns([LARGE] * 200))[-1], 7 * LARGE)
        self.assertEqual(list(bottoms_by_columns([2] * 30))[-2:], [4, 2])

    def test_bottoms_are_yielded(self):
        given = bottoms_by_columns(H)
        self.assertIs(iter(given), given)
        self.assertEqual([next(given), next(given)], [17, 9])

    def test_bottoms_do_not_follow_later_changes_of_the_argument(self):
        heights = list(H)
        given = bottoms_by_columns(heights)
        bottoms = [next(given)]
        heights[:] = [1]
        self.assertEqual((bottoms + list(given))[:4], [17, 9, 7, 5])

    def test_several_at_once(self):
        pairs = list(zip(bottoms_by_columns(H), bottoms_by_columns([1] * 200)))
        self.assertEqual(pairs[:3], [(17, 200), (9, 100), (7, 67)])

    def test_one_column_without_cards(self):
        self.assertEqual(fewest_columns([], 0), 1)
        self.assertEqual(fewest_columns([], LARGE), 1)

    def test_a_limit_that_is_just_kept_or_just_not(self):
        self.assertEqual([fewest_columns([5], 5), fewest_columns([5], 4), fewest_columns([5], 6)], [1, None, 1])
        self.assertEqual([fewest_columns([2] * 30, 60), fewest_columns([2] * 30, 59)], [1, 2])
        self.assertEqual([fewest_columns([LARGE], LARGE), fewest_columns([LARGE], LARGE - 1)], [1, None])
        self.assertEqual([fewest_columns([1] * 200, LARGE), fewest_columns([1] * 200, 7)], [1, 29])

    def test_thirty_columns_are_just_enough_or_not(self):
        self.assertEqual([fewest_columns([2] * 30, 2), fewest_columns([2] * 30, 3)], [30, 30])
        self.assertIsNone(fewest_columns([2] * 31, 2))
        self.assertIsNone(fewest_columns([2] * 30, 1))
        self.assertIsNone(fewest_columns([LARGE, LARGE] * 100, LARGE))

    def test_no_cards_keep_the_limit_0(self):
        for heights in ([1], [LARGE], [1] * 200):
            self.assertIsNone(fewest_columns(heights, 0))


class LowestBoundsTest(FunctionCase):

    def test_the_lowest_column_stands_within_the_bounds(self):
        for start, heights in list(small_samples()) + list(wide_samples()):
            least, greatest = lowest_bounds(start, heights)
            self.assertTrue(least <= min(plain_end(start, heights)) <= greatest, (start, heights))

    def test_the_least_integer_may_be_negative(self):
        self.assertEqual(lowest_bounds([0, 0], [5]), (0, 2))
        self.assertEqual(lowest_bounds([0, 0, 0], [5]), (-1, 1))
        self.assertEqual(lowest_bounds([0, 0, 0], [7]), (-2, 2))
        self.assertEqual(lowest_bounds([0, 0, 0], [6]), (-2, 2))
        self.assertEqual(lowest_bounds([0] * 30, [LARGE]), (-(28 * LARGE // 30), LARGE // 30))
        self.assertEqual(lowest_bounds([0] * 29 + [LARGE], []), (-(28 * LARGE // 30), LARGE // 30))

    def test_a_division_that_leaves_a_rest(self):
        self.assertEqual(lowest_bounds([0, 0], [3, 3, 3]), (3, 4))
        self.assertEqual(lowest_bounds([0, 0], [3, 3, 2]), (3, 4))
        self.assertEqual(lowest_bounds([0, 0, 0], [2, 2, 2, 2]), (2, 2))
        self.assertEqual(lowest_bounds([0, 0, 0], [2, 2, 2, 1]), (1, 2))

    def test_the_difference_of_the_start_may_be_greater_than_all_heights(self):
        self.assertEqual(lowest_bounds([9, 1], [2]), (2, 6))
        self.assertEqual(lowest_bounds([9, 1], [8]), (5, 9))
        self.assertEqual(lowest_bounds([9, 1], [9]), (5, 9))
        self.assertEqual(lowest_bounds([9, 1], [10]), (5, 10))
        self.assertEqual(lowest_bounds([3, 9, 1, 2], [2]), (-1, 4))

    def test_no_cards(self):
        self.assertEqual(lowest_bounds([0] * 30, []), (0, 0))
        self.assertEqual(lowest_bounds([LARGE] * 30, []), (LARGE, LARGE))
        self.assertEqual(lowest_bounds([5, 2], []), (2, 3))

    def test_one_column(self):
        self.assertEqual(lowest_bounds([4], [1, 2]), (7, 7))
        self.assertEqual(lowest_bounds([0], []), (0, 0))
        self.assertEqual(lowest_bounds([LARGE], [LARGE] * 200), (201 * LARGE, 201 * LARGE))


class KindsOfColumnsTest(FunctionCase):

    def test_kinds_of_results(self):
        effect, bounds = effect_of_column(Z, H, 0), lowest_bounds(Z, H)
        self.assertEqual([type(effect), type(bounds), len(bounds)], [list, tuple, 2])
        numbers = effect + list(bounds) + list(bottoms_by_columns(H)) + [greatest_bottom(Z, H), fewest_columns(H, 8)]
        for number in numbers:
            self.assertIs(type(number), int)

    def test_arguments_are_kept_and_results_are_new(self):
        for start, heights in ((Z, H), ([7], []), ([LARGE, 0], [LARGE, 1, 1]), ([0] * 29, [2] * 200)):
            pair = {"start": list(start), "heights": list(heights)}
            self.assert_arguments_kept(greatest_bottom, pair)
            self.assert_arguments_kept(lowest_bounds, pair)
            self.assert_arguments_kept(effect_of_column, {**pair, "extra": 1})
            self.assert_arguments_kept(bottoms_by_columns, {"heights": list(heights)})
            self.assert_arguments_kept(fewest_columns, {"heights": list(heights), "limit": 20})

    def test_wrong_arguments(self):
        pair = {"start": Z, "heights": H}
        self.assert_errors(greatest_bottom, pair, WRONG)
        self.assert_errors(lowest_bounds, pair, WRONG)
        self.assert_errors(effect_of_column, {**pair, "extra": 0}, WRONG)
        self.assert_errors(bottoms_by_columns, {"heights": H}, WRONG)
        self.assert_errors(fewest_columns, {"heights": H, "limit": 8}, WRONG)
        self.assert_errors(fewest_columns, {"heights": [], "limit": 8}, WRONG)

    def test_thirty_columns_come_before_the_other_parameters(self):
        for start in ([0] * 30, [LARGE] * 30):
            for heights in [H, []] + WRONG_CARDS:
                for extra in (0, -1, True):
                    arguments = {"start": start, "heights": heights, "extra": extra}
                    self.assert_raises_exactly(InvalidStartError, effect_of_column, arguments)
            for extra in WRONG_NUMBERS:
                arguments = {"start": start, "heights": H, "extra": extra}
                self.assert_raises_exactly(InvalidStartError, effect_of_column, arguments)

    def test_29_columns_are_a_start_like_any_other(self):
        good = {"start": [0] * 29, "heights": [], "extra": LARGE}
        self.assert_errors(effect_of_column, good, WRONG)

    def test_thirty_columns_are_enough_for_the_others(self):
        self.assertEqual(greatest_bottom([0] * 30, [4]), 4)
        self.assertEqual(lowest_bounds([4] * 30, []), (4, 4))

    def test_bottoms_raise_when_called_or_at_the_first_result(self):
        for heights in WRONG_CARDS:
            with self.assertRaises(InvalidCardsError):
                next(bottoms_by_columns(heights))

    def test_bounds_of_the_numbers(self):
        for number in (0, LARGE):
            self.assertEqual(len(effect_of_column(Z, H, number)), 6)
            self.assertIn(fewest_columns(H, number), (None, 1))
        for number in (-1, LARGE + 1):
            self.assert_raises_exactly(
                InvalidNumberError, effect_of_column, {"start": Z, "heights": H, "extra": number})
            self.assert_raises_exactly(InvalidNumberError, fewest_columns, {"heights": H, "limit": number})


if __name__ == "__main__":
    unittest.main()
