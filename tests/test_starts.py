"""Point 12, with points 3 to 8 as far as they concern lowcolumns/starts.py."""

import itertools
import unittest

from lowcolumns.errors import DifferentColumnsError, InvalidCardsError, InvalidStartError
from lowcolumns.starts import gap_between, gaps_along, level_after
from tests.support import (
    H, LARGE, NO_LISTS, WRONG, WRONG_CARDS, WRONG_STARTS, FunctionCase, mixed, plain_laying,
)

EXAMPLE = """
>>> from lowcolumns.starts import gap_between, gaps_along, level_after
>>> [gap_between([0, 0], [3, 0]), list(gaps_along([0, 0], [0, 3], [2, 2, 1])), level_after([0, 0], [0, 3], [2, 2, 1, 1])]
[(0, 3), [(0, 3), (1, 2), (1, 2), (1, 2)], None]
>>> [level_after([0, 0], [0, 4], [2, 2, 3]), level_after([1, 2], [4, 3], [5])]
[1, 0]
"""


def plain_gap(columns, others):
    places = range(len(columns))
    differences = [sorted(others)[place] - sorted(columns)[place] for place in places]
    return min(differences), max(differences)


def plain_gaps(start, other, heights):
    one, two = plain_laying(start, heights)[1], plain_laying(other, heights)[1]
    return [plain_gap(columns, others) for columns, others in zip(one, two)]


def plain_level(start, other, heights):
    for many, (least, greatest) in enumerate(plain_gaps(start, other, heights)):
        if least == greatest:
            return many
    return None


def small_pairs():
    """Yield pairs of small starts with cards."""
    for width, most, cards in ((1, 3, 2), (2, 4, 3), (3, 2, 3)):
        starts = [list(start) for start in itertools.product(range(most + 1), repeat=width)]
        for start, other in itertools.product(starts, repeat=2):
            for heights in itertools.product((1, 2, 4), repeat=cards):
                yield start, other, list(heights)


def wide_pairs():
    """Yield pairs of starts, up to 30 columns wide, with up to 200 cards."""
    for seed, (width, many) in enumerate([(1, 200), (2, 50), (3, 200), (7, 20), (30, 200), (29, 199), (30, 0)]):
        for most in (1, 5, 40, LARGE):
            start, heights = mixed(seed, width, 0, most), mixed(seed + 20, many, 1, most)
            yield start, mixed(seed + 10, width, 0, most), heights
            yield start, start[1:] + start[:1], heights
            yield start, start[:-1] + [LARGE], heights
            yield start, list(start), heights
    yield [0] * 30, [LARGE] * 30, [LARGE] * 200


class StartsTest(FunctionCase):

    def test_example_of_the_document(self):
        self.assert_example(EXAMPLE)

    def test_interface(self):
        for function, signature in (
            (gap_between, "(start, other)"),
            (gaps_along, "(start, other, heights)"),
            (level_after, "(start, other, heights)"),
        ):
            self.assert_interface(function, "lowcolumns.starts", signature)

    def test_samples_are_as_by_hand(self):
        for start, other, heights in list(small_pairs()) + list(wide_pairs()):
            gaps = plain_gaps(start, other, heights)
            self.assertEqual(gap_between(start, other), gaps[0])
            self.assertEqual(list(gaps_along(start, other, heights)), gaps)
            self.assertEqual(level_after(start, other, heights), plain_level(start, other, heights))

    def test_equal_starts(self):
        for start in ([0], [LARGE], [3, 1, 2], [0] * 30, [LARGE] * 30):
            self.assertEqual(gap_between(start, list(start)), (0, 0))
            self.assertEqual(gap_between(start, start), (0, 0))
            self.assertEqual(list(gaps_along(start, start, H)), [(0, 0)] * 7)
            self.assertEqual(level_after(start, start, H), 0)

    def test_starts_that_are_turned(self):
        self.assertEqual(gap_between([1, 2, 3], [3, 1, 2]), (0, 0))
        self.assertEqual(gap_between([4, 2], [2, 4]), (0, 0))
        self.assertEqual(list(gaps_along([1, 2, 3], [3, 1, 2], [1, 1, 5])), [(0, 0)] * 4)
        self.assertEqual(level_after([0, LARGE], [LARGE, 0], [1] * 200), 0)

    def test_starts_that_differ_in_one_column(self):
        self.assertEqual(gap_between([1, 5, 3], [1, 7, 3]), (0, 2))
        self.assertEqual(gap_between([1, 7, 3], [1, 5, 3]), (-2, 0))
        # One higher column can change the order of all: sorted they are 1 3 5 and 3 5 9.
        self.assertEqual(gap_between([1, 3, 5], [9, 3, 5]), (2, 4))
        self.assertEqual(list(gaps_along([0, 0], [0, 4], [2, 2, 3])), [(0, 4), (2, 2), (2, 2), (2, 2)])

    def test_one_column(self):
        self.assertEqual([gap_between([2], [9]), gap_between([9], [2])], [(7, 7), (-7, -7)])
        self.assertEqual([gap_between([0], [LARGE]), gap_between([LARGE], [0])], [(LARGE, LARGE), (-LARGE, -LARGE)])
        self.assertEqual(list(gaps_along([2], [9], [1, LARGE])), [(7, 7)] * 3)
        self.assertEqual(level_after([2], [9], []), 0)

    def test_thirty_columns(self):
        self.assertEqual(gap_between([0] * 30, [0] * 29 + [1]), (0, 1))
        self.assertEqual(gap_between(list(range(30)), list(range(30, 0, -1))), (1, 1))
        start, other = [0] + [2] * 29, [0] + [4] * 28 + [6]
        self.assertEqual(list(gaps_along(start, other, [4, 1])), [(0, 4), (2, 2), (2, 2)])
        self.assertEqual(level_after(start, other, [4, 1]), 1)
        # The differences of thirty columns cannot be equal if their sum is 1.
        self.assertIsNone(level_after([0] * 30, [1] + [0] * 29, [1] * 200))

    def test_no_cards(self):
        self.assertEqual(list(gaps_along([0, 0], [3, 1], [])), [(1, 3)])
        self.assertIsNone(level_after([0, 0], [3, 1], []))
        self.assertEqual(level_after([0, 0], [3, 3], []), 0)

    def test_level_at_once_later_at_the_end_or_never(self):
        self.assertEqual(level_after([1, 2], [4, 3], [5]), 0)
        self.assertEqual(level_after([0, 0], [0, 4], [2, 2, 3]), 1)
        self.assertEqual(level_after([0, 0], [0, 4], [2]), 1)
        self.assertEqual(level_after([0, 0], [0, 200], [1] * 200), 199)
        self.assertEqual(level_after([1, 0], [0, 201], [1] * 200), 200)
        self.assertIsNone(level_after([1, 0], [0, 201], [1] * 199))
        self.assertIsNone(level_after([0, 0], [0, 3], [2] * 200))
        self.assertIsNone(level_after([0, 0], [0, LARGE], [1] * 200))

    def test_level_stays(self):
        for start, other, heights in small_pairs():
            many = level_after(start, other, heights)
            if many is not None:
                gaps = list(gaps_along(start, other, heights))
                self.assertEqual(gaps[many:], [gaps[many]] * (len(heights) + 1 - many))

    def test_heights_up_to_the_greatest(self):
        self.assertEqual(list(gaps_along([0, 0], [0, LARGE], [LARGE, LARGE])), [(0, LARGE), (0, LARGE), (0, LARGE)])
        self.assertEqual(len(list(gaps_along([LARGE] * 30, [0] * 30, [LARGE] * 200))), 201)


class KindsOfStartsTest(FunctionCase):

    def test_kinds_of_results(self):
        gaps = list(gaps_along([0, 0], [0, 3], [2, 2])) + [gap_between([0, 0], [0, 3])]
        for gap in gaps:
            self.assertEqual([type(gap)] + [type(number) for number in gap], [tuple, int, int])
        self.assertIs(type(level_after([1, 2], [4, 3], [5])), int)

    def test_gaps_are_yielded(self):
        given = gaps_along([0, 0], [0, 3], [2, 2, 1])
        self.assertIs(iter(given), given)
        self.assertEqual([next(given), next(given)], [(0, 3), (1, 2)])

    def test_gaps_do_not_follow_later_changes_of_the_arguments(self):
        start, other, heights = [0, 0], [0, 4], [2, 2, 3]
        given = gaps_along(start, other, heights)
        gaps = [next(given)]
        start[:], other[:], heights[:] = [9], [8, 7, 6], [1]
        self.assertEqual(gaps + list(given), [(0, 4), (2, 2), (2, 2), (2, 2)])

    def test_several_at_once(self):
        one, two = gaps_along([0, 0], [0, 4], [2, 2]), gaps_along([0, 4], [0, 0], [2, 2])
        self.assertEqual(list(zip(one, two)), [((0, 4), (-4, 0)), ((2, 2), (-2, -2)), ((2, 2), (-2, -2))])

    def test_arguments_are_kept_and_results_are_new(self):
        for start, other, heights in (
            ([3, 1, 2], [9, 0, 5], H), ([7], [LARGE], []), ([LARGE, 0], [5, 4], [LARGE, 1]),
            ([2] * 30, [1] * 30, [1] * 200),
        ):
            pair = {"start": list(start), "other": list(other)}
            self.assert_arguments_kept(gap_between, pair)
            self.assert_arguments_kept(gaps_along, {**pair, "heights": list(heights)})
            self.assert_arguments_kept(level_after, {**pair, "heights": list(heights)})

    def test_wrong_arguments(self):
        for pair in ({"start": [3, 1], "other": [0, 2]}, {"start": [3], "other": [0]}):
            self.assert_errors(gap_between, pair, WRONG)
            for heights in ([], H):
                self.assert_errors(gaps_along, {**pair, "heights": heights}, WRONG)
                self.assert_errors(level_after, {**pair, "heights": heights}, WRONG)

    def test_different_numbers_of_columns(self):
        for start, other in (([0], [0, 0]), ([0, 0], [0]), ([1] * 30, [1] * 29), ([1] * 29, [1] * 30), ([0], [0] * 30)):
            pair = {"start": start, "other": other}
            self.assert_raises_exactly(DifferentColumnsError, gap_between, pair)
            for function in (gaps_along, level_after):
                for heights in [H, []] + WRONG_CARDS:
                    self.assert_raises_exactly(DifferentColumnsError, function, {**pair, "heights": heights})

    def test_both_starts_come_before_their_numbers_of_columns(self):
        for wrong in NO_LISTS + [[], [0] * 31, [-1], [0, 0, True], [0, LARGE + 1, 0]] + WRONG_STARTS:
            for good in ([0], [0, 0], [0] * 4, [0] * 30):
                for pair in ({"start": wrong, "other": good}, {"start": good, "other": wrong}):
                    self.assert_raises_exactly(InvalidStartError, gap_between, pair)
                    for function in (gaps_along, level_after):
                        self.assert_raises_exactly(InvalidStartError, function, {**pair, "heights": [0]})

    def test_gaps_raise_when_called_or_at_the_first_result(self):
        for error, arguments in (
            (InvalidStartError, ([], [0], [1])), (InvalidStartError, ([0], [], [1])),
            (DifferentColumnsError, ([0], [0, 0], [0])), (InvalidCardsError, ([0], [0], [0])),
        ):
            with self.assertRaises(error):
                next(gaps_along(*arguments))


if __name__ == "__main__":
    unittest.main()
