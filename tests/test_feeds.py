"""Points 13 and 14, with points 3 to 8 as far as they concern lowcolumns/feeds.py."""

import itertools
import unittest

from lowcolumns.errors import InvalidCardsError, InvalidNumberError, InvalidStartError
from lowcolumns.feeds import card_of_feed, end_after_rounds, first_card_from, return_of, rounds
from tests.support import (
    LARGE, NO_INTEGERS, NO_LISTS, WRONG, FunctionCase, lists_with, mixed, plain_laying,
)

EXAMPLE = """
>>> from lowcolumns.feeds import card_of_feed, end_after_rounds, first_card_from, return_of
>>> [return_of([0, 0], [2, 1]), end_after_rounds([0, 0], [2, 1], 3), end_after_rounds([0, 0], [2, 1], 10 ** 30)]
[(0, 2, 3), [5, 4], [1500000000000000000000000000000, 1500000000000000000000000000000]]
>>> [card_of_feed([0, 0], [2, 1], 5), first_card_from([0, 0], [2, 1], 3), return_of([5, 0], [3])]
[(1, 3), 4, (1, 2, 3)]
"""

GREATEST = 5 * LARGE

# In the first two of these, no differences come again that came within the first twenty rounds.
FEEDS = [
    ([0, 3, 0, 9], [1]), ([1, 8, 8, 8], [8, 3]), ([4, 2, 2], [7, 8, 7]), ([5, 0], [3]), ([0, 0], [2, 1]),
    ([0], [1]), ([9], [9]), ([9], [9] * 30), ([0], [1] * 30), ([0] * 4, [9] * 30), ([9] * 4, [1] * 30),
    ([0, 9], [9]), ([9, 0], [1]), ([9, 0, 9], [9, 1]), ([0, 9, 0, 9], [5]), ([9, 9, 9, 0], [1] * 29 + [9]),
    ([3, 1, 4, 1], [5, 9, 2, 6, 5, 3, 5, 8, 9, 7]), ([2, 7, 1], mixed(5, 30, 1, 9)), ([8, 2, 8, 1], mixed(6, 30, 1, 9)),
    ([6, 6, 0, 3], mixed(7, 29, 1, 9)), ([1, 4], mixed(8, 13, 1, 9)), ([8, 3, 4, 4], [8, 9, 7, 1, 8]),
]

WRONG_FEED = {
    **WRONG,
    "start": (
        InvalidStartError,
        NO_LISTS + [[], [0] * 5, [0] * 30, [0] * 31, [LARGE], [0, 0, 0, 10]]
        + lists_with(1, NO_INTEGERS + [-1, 10, LARGE, -LARGE]),
    ),
    "block": (
        InvalidCardsError,
        NO_LISTS + [[], [1] * 31, [1] * 200, [1] * 201, [1] * 29 + [10], [1] * 29 + [0]]
        + lists_with(1, NO_INTEGERS + [0, -1, 10, LARGE, -LARGE]),
    ),
    "number": (InvalidNumberError, NO_INTEGERS + [-1, GREATEST + 1, -LARGE, 10 ** 259]),
}


def small_feeds():
    for width in (1, 2, 3):
        for start in itertools.product((0, 1, 5, 9), repeat=width):
            for many in (1, 2):
                for block in itertools.product((1, 2, 3, 9), repeat=many):
                    yield list(start), list(block)


def plain_rounds(start, block, many):
    """Return the heights of the columns after 0 to many rounds."""
    return plain_laying(start, block * many)[1][::len(block)]


def plain_differences(columns):
    return [height - min(columns) for height in columns]


def plain_return(start, block):
    """Return what return_of returns, from the rounds laid one by one."""
    ends = [list(start)]
    while True:
        ends.append(plain_laying(ends[-1], block)[1][-1])
        for first in range(len(ends) - 1):
            if plain_differences(ends[first]) == plain_differences(ends[-1]):
                grown = {new - old for old, new in zip(ends[first], ends[-1])}
                assert len(grown) == 1
                return first, len(ends) - 1 - first, grown.pop()


def first_rounds(start, block):
    """Return the heights after the first rounds."""
    return list(itertools.islice(rounds(start, block), 9))


class FeedsTest(FunctionCase):

    def test_example_of_the_document(self):
        self.assert_example(EXAMPLE)

    def test_interface(self):
        for function, signature in (
            (rounds, "(start, block)"),
            (return_of, "(start, block)"),
            (end_after_rounds, "(start, block, count)"),
            (card_of_feed, "(start, block, number)"),
            (first_card_from, "(start, block, level)"),
        ):
            self.assert_interface(function, "lowcolumns.feeds", signature)

    def test_small_feeds_are_as_by_hand(self):
        for start, block in small_feeds():
            self.assert_laid(start, block, 14)

    def test_other_feeds_are_as_by_hand(self):
        for start, block in FEEDS:
            self.assert_laid(start, block, 40)

    def assert_laid(self, start, block, many):
        ends = plain_rounds(start, block, many)
        places = plain_laying(start, block * many)[0]
        self.assertEqual(list(itertools.islice(rounds(start, block), many + 1)), ends)
        self.assertEqual([end_after_rounds(start, block, count) for count in range(many + 1)], ends)
        chosen = range(0, len(places), 1 + len(places) // 100)
        self.assertEqual([card_of_feed(start, block, card) for card in chosen], [places[card] for card in chosen])
        levels = range(0, places[-1][1] + 1, 1 + places[-1][1] // 100)
        tops = [top for _, top in places]
        for level in levels:
            first = min(card for card, top in enumerate(tops) if top >= level)
            self.assertEqual(first_card_from(start, block, level), first, (start, block, level))

    def test_valid_edges_raise_nothing(self):
        for start in ([0], [9], [0] * 4, [9] * 4, [0, 9, 0, 9]):
            for block in ([1], [9], [1] * 30, [9] * 30, [1, 9]):
                self.assert_laid(start, block, 3)
                for number in (0, LARGE):
                    self.assertEqual(len(end_after_rounds(start, block, number)), len(start))
                    self.assertGreaterEqual(first_card_from(start, block, number), 0)
                for number in (0, GREATEST):
                    self.assertGreaterEqual(card_of_feed(start, block, number)[1], 0)

    def test_returns_are_as_by_hand(self):
        for start, block in list(small_feeds()) + FEEDS:
            self.assertEqual(return_of(start, block), plain_return(start, block), (start, block))

    def test_great_numbers_follow_the_period_and_the_growth(self):
        for start, block in list(small_feeds())[::7] + FEEDS:
            self.assert_periodic(start, block)

    def assert_periodic(self, start, block):
        first, period, growth = return_of(start, block)
        many = first + 2 * period
        ends = plain_rounds(start, block, many)
        places = plain_laying(start, block * many)[0]
        periods = LARGE // period - first - 3
        for count in range(first, first + period):
            far = [height + periods * growth for height in ends[count]]
            self.assertEqual(end_after_rounds(start, block, count + periods * period), far)
        for card in range(first * len(block), many * len(block)):
            column, top = places[card]
            number = card + periods * period * len(block)
            if number <= GREATEST:
                self.assertEqual(card_of_feed(start, block, number), (column, top + periods * growth))
            before = places[card - 1][1] if card > first * len(block) else top
            far = LARGE // growth - 20
            if before < top:
                for level in (before + 1, top):
                    found = first_card_from(start, block, level + far * growth)
                    self.assertEqual(found, card + far * period * len(block), (start, block, level))

    def test_the_first_card_has_the_level_and_the_card_before_has_not(self):
        levels = [0, 1, 2, 9, 10, 11, 500, 10 ** 9, 10 ** 18 + 7, LARGE // 3, LARGE - 1, LARGE]
        for start, block in list(small_feeds())[::11] + FEEDS:
            for level in levels:
                card = first_card_from(start, block, level)
                if card <= GREATEST:
                    self.assertGreaterEqual(card_of_feed(start, block, card)[1], level)
                    self.assertTrue(card == 0 or card_of_feed(start, block, card - 1)[1] < level, (start, block, level))

    def test_the_cards_of_a_round_lead_from_end_to_end(self):
        for start, block in FEEDS:
            count = LARGE // 7
            columns = end_after_rounds(start, block, count)
            for number, height in enumerate(block, count * len(block)):
                if number <= GREATEST:
                    column, top = card_of_feed(start, block, number)
                    self.assertEqual((column, top), (columns.index(min(columns)), min(columns)))
                    columns[column] += height
            if (count + 1) * len(block) <= GREATEST:
                self.assertEqual(columns, end_after_rounds(start, block, count + 1))


class RoundsTest(FunctionCase):

    def test_some_hundreds_of_rounds(self):
        for start, block in FEEDS[:8]:
            many = 400
            self.assertEqual(list(itertools.islice(rounds(start, block), many + 1)), plain_rounds(start, block, many))

    def test_several_at_once(self):
        one, two, three = rounds([0, 0], [2, 1]), rounds([0, 0], [2, 1]), rounds([5, 0], [3])
        self.assertEqual([next(one), next(one), next(one)], [[0, 0], [2, 1], [3, 3]])
        self.assertEqual([next(two), next(three), next(two), next(three)], [[0, 0], [5, 0], [2, 1], [5, 3]])
        self.assertEqual([next(one), next(two), next(three)], [[5, 4], [3, 3], [5, 6]])

    def test_yielded_lists_are_new(self):
        given = rounds([0, 0], [2, 1])
        ends = []
        for _ in range(4):
            end = next(given)
            ends.append(list(end))
            end[0] = 70
            end.append(0)
        self.assertEqual(ends, [[0, 0], [2, 1], [3, 3], [5, 4]])

    def test_rounds_do_not_follow_later_changes_of_the_arguments(self):
        start, block = [0, 0], [2, 1]
        given = rounds(start, block)
        ends = [next(given)]
        start[:], block[:] = [9, 9, 9], [7]
        ends += [next(given), next(given)]
        self.assertEqual(ends, [[0, 0], [2, 1], [3, 3]])

    def test_rounds_are_yielded(self):
        given = rounds([9], [9] * 30)
        self.assertIs(iter(given), given)
        self.assertEqual([next(given), next(given)], [[9], [279]])


class FeedEdgesTest(FunctionCase):

    def test_returns(self):
        self.assertEqual(return_of([0], [1]), (0, 1, 1))
        self.assertEqual(return_of([9], [9] * 30), (0, 1, 270))
        self.assertEqual(return_of([0, 0], [1]), (0, 2, 1))
        self.assertEqual(return_of([0] * 4, [9]), (0, 4, 9))
        self.assertEqual(return_of([0] * 4, [9] * 4), (0, 1, 9))
        self.assertEqual(return_of([9, 0], [9]), (0, 2, 9))
        self.assertEqual(return_of([9, 0], [1]), (8, 2, 1))
        self.assertEqual(return_of([9, 0], [1, 1]), (4, 1, 1))

    def test_the_differences_belong_to_the_columns(self):
        # After one round the heights are turned, which is not yet a return.
        self.assertEqual(list(itertools.islice(rounds([0, 1], [2]), 3)), [[0, 1], [2, 1], [2, 3]])
        self.assertEqual(return_of([0, 1], [2]), (0, 2, 2))

    def test_no_rounds_and_the_most(self):
        for start in ([0], [9], [9, 0, 3, 9]):
            self.assertEqual(end_after_rounds(start, [1], 0), start)
        self.assertEqual(end_after_rounds([0], [1], LARGE), [LARGE])
        self.assertEqual(end_after_rounds([9], [9] * 30, LARGE), [9 + 270 * LARGE])
        self.assertEqual(end_after_rounds([0] * 4, [1], LARGE), [LARGE // 4] * 4)
        self.assertEqual(end_after_rounds([0] * 4, [9] * 30, LARGE - 1), [9 * (30 * LARGE - 28) // 4] * 2
                         + [9 * (30 * LARGE - 32) // 4] * 2)

    def test_the_card_0_and_the_last_one(self):
        for block in ([1], [9], [3] * 30):
            self.assertEqual(card_of_feed([0], block, 0), (0, 0))
            self.assertEqual(card_of_feed([9, 9, 9, 0], block, 0), (3, 0))
        self.assertEqual(card_of_feed([0], [1], GREATEST), (0, GREATEST))
        self.assertEqual(card_of_feed([9], [9], GREATEST), (0, 9 + 9 * GREATEST))
        self.assertEqual(card_of_feed([0, 0], [1], GREATEST), (0, GREATEST // 2))
        self.assertEqual(card_of_feed([0, 0], [1], GREATEST - 1), (1, GREATEST // 2 - 1))
        self.assertEqual(card_of_feed([0], [2] * 30, GREATEST), (0, 2 * GREATEST))

    def test_a_level_that_the_first_card_has(self):
        self.assertEqual(first_card_from([0], [5], 0), 0)
        self.assertEqual(first_card_from([9] * 4, [1], 9), 0)
        self.assertEqual(first_card_from([9] * 4, [1], 10), 4)
        self.assertEqual(first_card_from([9, 0], [1], 1), 1)
        self.assertEqual(first_card_from([9, 0], [1], 9), 9)
        self.assertEqual(first_card_from([9, 0], [1], 10), 11)

    def test_the_greatest_level(self):
        self.assertEqual(first_card_from([0], [1], LARGE), LARGE)
        self.assertEqual(first_card_from([0] * 4, [1], LARGE), 4 * LARGE)
        self.assertEqual(first_card_from([9] * 4, [1], LARGE), 4 * (LARGE - 9))
        self.assertEqual(first_card_from([0], [9], LARGE), LARGE // 9 + 1)
        self.assertEqual(first_card_from([0], [2], LARGE), LARGE // 2)
        self.assertEqual(first_card_from([0], [2], LARGE - 1), LARGE // 2)

    def test_of_equal_tops_the_first_card_is_found(self):
        self.assertEqual([first_card_from([0, 0], [1], level) for level in range(4)], [0, 2, 4, 6])
        self.assertEqual([first_card_from([0, 0], [2], level) for level in range(5)], [0, 2, 2, 4, 4])
        self.assertEqual(first_card_from([0, 0], [2], LARGE), LARGE)


class KindsOfFeedsTest(FunctionCase):

    def test_kinds_of_results(self):
        start, block = [0, 3, 0], [2, 1]
        for count in (0, 5, LARGE):
            made = end_after_rounds(start, block, count)
            self.assertEqual([type(made)] + [type(height) for height in made], [list, int, int, int])
            card = card_of_feed(start, block, count)
            self.assertEqual([type(card), type(card[0]), type(card[1])], [tuple, int, int])
            self.assertIs(type(first_card_from(start, block, count)), int)
        found = return_of(start, block)
        self.assertEqual([type(found)] + [type(number) for number in found], [tuple, int, int, int])
        for end in first_rounds(start, block):
            self.assertEqual([type(end)] + [type(height) for height in end], [list, int, int, int])

    def test_arguments_are_kept_and_results_are_new(self):
        for start, block in FEEDS:
            pair = {"start": list(start), "block": list(block)}
            self.assert_arguments_kept(first_rounds, pair)
            self.assert_arguments_kept(return_of, pair)
            for number in (0, 3, LARGE):
                self.assert_arguments_kept(end_after_rounds, {**pair, "count": number})
                self.assert_arguments_kept(card_of_feed, {**pair, "number": number})
                self.assert_arguments_kept(first_card_from, {**pair, "level": number})

    def test_rounds_take_their_arguments_by_position_and_by_name(self):
        for given in (rounds([5, 0], [3]), rounds([5, 0], block=[3]), rounds(block=[3], start=[5, 0])):
            self.assertEqual([next(given), next(given), next(given)], [[5, 0], [5, 3], [5, 6]])

    def test_wrong_arguments(self):
        for pair in ({"start": [0, 0], "block": [2, 1]}, {"start": [9] * 4, "block": [9] * 30}):
            self.assert_errors(first_rounds, pair, WRONG_FEED)
            self.assert_errors(return_of, pair, WRONG_FEED)
            self.assert_errors(end_after_rounds, {**pair, "count": 3}, WRONG_FEED)
            self.assert_errors(card_of_feed, {**pair, "number": 5}, WRONG_FEED)
            self.assert_errors(first_card_from, {**pair, "level": 3}, WRONG_FEED)

    def test_rounds_raise_when_called_or_at_the_first_result(self):
        for name, good in (("start", [3]), ("block", [0, 0])):
            error, values = WRONG_FEED[name]
            for value in values:
                arguments = (value, good) if name == "start" else (good, value)
                with self.assertRaises(error):
                    next(rounds(*arguments))


if __name__ == "__main__":
    unittest.main()
