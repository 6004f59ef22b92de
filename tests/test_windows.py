"""Point 16, with points 3 to 8 as far as they concern lowcolumns/windows.py."""

import itertools
import unittest

from lowcolumns.errors import InvalidCardsError, InvalidNumberError, InvalidStartError
from lowcolumns.windows import cards_at, first_from, screens, visible
from tests.support import (
    H, LARGE, WRONG, WRONG_CARDS, WRONG_NUMBERS, WRONG_STARTS, Z, FunctionCase, plain_laying, small_samples,
    wide_samples,
)

EXAMPLE = """
>>> from lowcolumns.windows import cards_at, first_from, screens, visible
>>> Z, H = [0, 0, 0], [5, 2, 4, 3, 1, 2]
>>> [visible(Z, H, 4, 5), first_from(Z, H, 3), cards_at(Z, H, 4), cards_at(Z, H, 5)]
[[0, 3, 4], 4, [0, 3, 4], [5, None, None]]
>>> list(screens(Z, H, 3))
[[0, 1, 2, 3], [0, 2, 3, 4, 5], [5]]
"""


def plain_spans(start, heights):
    """Return the list of the tuples (column, top, bottom) of the cards."""
    places = plain_laying(start, heights)[0]
    return [(column, top, top + height) for (column, top), height in zip(places, heights)]


def seen_between(spans, low, high):
    return [card for card, (_, top, bottom) in enumerate(spans) if not (top >= high or bottom <= low)]


def first_of(spans, level):
    return next((card for card, (_, top, _) in enumerate(spans) if not top < level), None)


def cards_of_columns(spans, columns, level):
    found = []
    for column in range(columns):
        cards = [card for card, (at, top, bottom) in enumerate(spans) if at == column and top <= level < bottom]
        assert len(cards) <= 1
        found.append(cards[0] if cards else None)
    return found


def plain_screens(spans, high):
    """Return the visible cards of each screen up to the last card, screen by screen."""
    greatest = max((bottom for _, _, bottom in spans), default=1)
    return [seen_between(spans, low, low + high) for low in range(0, greatest, high)]


def levels_near(spans):
    """Return heights at, above and below some tops and bottoms."""
    borders = {border for _, top, bottom in spans[:3] + spans[-3:] for border in (top, bottom)}
    near = {border + more for border in borders | {0, 17} for more in (-1, 0, 1)}
    return sorted(level for level in near if 0 <= level <= LARGE)


class WindowsTest(FunctionCase):

    def test_example_of_the_document(self):
        self.assert_example(EXAMPLE)

    def test_interface(self):
        for function, signature in (
            (visible, "(start, heights, low, high)"),
            (first_from, "(start, heights, level)"),
            (cards_at, "(start, heights, level)"),
            (screens, "(start, heights, high)"),
        ):
            self.assert_interface(function, "lowcolumns.windows", signature)

    def test_small_samples_are_as_by_hand(self):
        for start, heights in small_samples(3):
            spans = plain_spans(start, heights)
            for level in range(8):
                self.assert_level(start, heights, spans, level)
                for high in range(level + 1, 9):
                    self.assertEqual(visible(start, heights, level, high), seen_between(spans, level, high))
            for high in range(1, 10):
                self.assertEqual(list(screens(start, heights, high)), plain_screens(spans, high))

    def assert_level(self, start, heights, spans, level):
        self.assertEqual(first_from(start, heights, level), first_of(spans, level))
        self.assertEqual(cards_at(start, heights, level), cards_of_columns(spans, len(start), level))

    def test_wide_samples_are_as_by_hand(self):
        for start, heights in wide_samples():
            spans = plain_spans(start, heights)
            levels = levels_near(spans)
            for level in levels:
                self.assert_level(start, heights, spans, level)
            for low, high in itertools.combinations(levels[::3] + [LARGE - 1, LARGE], 2):
                if low < high:
                    self.assertEqual(visible(start, heights, low, high), seen_between(spans, low, high))
            greatest = max((bottom for _, _, bottom in spans), default=1)
            for many in (1, 2, 7):
                for high in (greatest // many, greatest // many + 1):
                    if 1 <= high <= LARGE:
                        self.assertEqual(list(screens(start, heights, high)), plain_screens(spans, high))


class VisibleTest(FunctionCase):

    def test_a_card_that_only_touches_a_border_is_not_visible(self):
        self.assertEqual(visible([0], [3, 2, 4], 3, 5), [1])
        self.assertEqual(visible([0], [3, 2, 4], 2, 5), [0, 1])
        self.assertEqual(visible([0], [3, 2, 4], 3, 6), [1, 2])
        self.assertEqual(visible([0], [3, 2, 4], 4, 5), [1])
        self.assertEqual(visible([0], [3, 2, 4], 0, 1), [0])
        self.assertEqual(visible([0], [3, 2, 4], 8, 9), [2])
        self.assertEqual(visible([0], [3, 2, 4], 9, 10), [])

    def test_the_start_is_no_card(self):
        self.assertEqual(visible([5, 0], [2], 3, 9), [])
        self.assertEqual(visible([5, 3], [2], 0, 3), [])
        self.assertEqual(visible([5, 3], [2], 0, 4), [0])

    def test_no_cards(self):
        self.assertEqual(visible([0], [], 0, LARGE), [])
        self.assertEqual(visible([LARGE] * 30, [], 0, 1), [])

    def test_the_least_and_the_greatest_borders(self):
        self.assertEqual(visible(Z, H, 0, LARGE), [0, 1, 2, 3, 4, 5])
        self.assertEqual(visible(Z, H, LARGE - 1, LARGE), [])
        self.assertEqual(visible([0], [LARGE, 1], LARGE - 1, LARGE), [0])
        self.assertEqual(visible([1], [LARGE, 1], LARGE - 1, LARGE), [0])
        self.assertEqual(visible([LARGE], [1], LARGE - 1, LARGE), [])
        self.assertEqual(visible([LARGE - 1], [1], LARGE - 1, LARGE), [0])
        self.assertEqual(visible([0], [1] * 200, 0, LARGE), list(range(200)))

    def test_the_upper_border_is_greater_than_the_lower_one(self):
        for low, high in ((0, 0), (5, 5), (5, 4), (LARGE, LARGE), (LARGE, 0), (1, 0), (LARGE, LARGE - 1)):
            for heights in (H, []):
                arguments = {"start": Z, "heights": heights, "low": low, "high": high}
                self.assert_raises_exactly(InvalidNumberError, visible, arguments)
        self.assertEqual(visible(Z, H, 4, 5), [0, 3, 4])


class LevelsTest(FunctionCase):

    def test_the_first_card_from_a_level(self):
        self.assertEqual([first_from(Z, H, level) for level in range(7)], [0, 3, 3, 4, 4, 5, None])
        self.assertEqual([first_from([4], [2, 1], level) for level in (0, 4, 5, 6, 7)], [0, 0, 1, 1, None])
        self.assertEqual(first_from([LARGE], [1], LARGE), 0)
        self.assertEqual(first_from([0], [LARGE, 1], LARGE), 1)
        self.assertIsNone(first_from([0], [LARGE - 1, 1], LARGE))
        self.assertEqual(first_from([0], [1] * 200, 199), 199)
        self.assertIsNone(first_from([0], [1] * 200, 200))

    def test_of_cards_with_the_same_top_the_first_one_is_found(self):
        self.assertEqual([first_from([0, 0], [2, 2, 2, 2], level) for level in range(3)], [0, 2, 2])

    def test_a_card_has_its_top_and_not_its_bottom(self):
        self.assertEqual([cards_at([0], [3, 2], level) for level in range(6)], [[0], [0], [0], [1], [1], [None]])
        self.assertEqual([cards_at([2, 0], [1, 3], level) for level in range(5)],
                         [[None, 0], [None, 1], [None, 1], [None, 1], [None, None]])
        self.assertEqual([cards_at([2, 0], [2, 3], level) for level in (0, 1, 2, 4, 5)],
                         [[None, 0], [None, 0], [1, None], [1, None], [None, None]])

    def test_no_cards(self):
        for level in (0, 5, LARGE):
            self.assertIsNone(first_from([0, 9], [], level))
            self.assertEqual(cards_at([0, 9, 1], [], level), [None] * 3)
            self.assertEqual(cards_at([LARGE] * 30, [], level), [None] * 30)

    def test_the_least_and_the_greatest_level(self):
        self.assertEqual(cards_at([0, 0, 1], [LARGE, LARGE], 0), [0, 1, None])
        self.assertEqual(cards_at([1, 0], [LARGE, LARGE], LARGE), [1, None])
        self.assertEqual(cards_at([1, 1], [LARGE, LARGE], LARGE), [0, 1])
        self.assertEqual(cards_at([LARGE] * 30, [1] * 30, LARGE), list(range(30)))
        self.assertEqual(cards_at([LARGE] * 30, [1] * 30, LARGE - 1), [None] * 30)


class ScreensTest(FunctionCase):

    def test_no_cards_have_one_screen(self):
        for start in ([0], [5, 9], [LARGE] * 30):
            for high in (1, 3, LARGE):
                self.assertEqual(list(screens(start, [], high)), [[]])

    def test_the_last_border_is_at_or_below_the_greatest_bottom(self):
        self.assertEqual(list(screens([0], [3, 3], 3)), [[0], [1]])
        self.assertEqual(list(screens([0], [3, 3], 2)), [[0], [0, 1], [1]])
        self.assertEqual(list(screens([0], [3, 3], 5)), [[0, 1], [1]])
        self.assertEqual(list(screens([0], [3, 3], 6)), [[0, 1]])
        self.assertEqual(list(screens([0], [3, 3], 7)), [[0, 1]])
        self.assertEqual(list(screens([0, 0], [6, 1, 1], 3)), [[0, 1, 2], [0]])

    def test_the_start_can_stand_lower_than_all_cards(self):
        self.assertEqual(list(screens([9, 0], [2], 1)), [[0], [0]])
        self.assertEqual(list(screens([LARGE, 0], [2, 2], 3)), [[0, 1], [1]])

    def test_the_first_screens_can_be_without_cards(self):
        self.assertEqual(list(screens([7, 7], [1], 3)), [[], [], [0]])
        self.assertEqual(list(screens([6], [1, 1], 3)), [[], [], [0, 1]])

    def test_the_least_and_the_greatest_border(self):
        self.assertEqual(list(screens([0], [2, 1], 1)), [[0], [0], [1]])
        self.assertEqual(list(screens([0], [LARGE], LARGE)), [[0]])
        self.assertEqual(list(screens([0], [LARGE, 1], LARGE)), [[0], [1]])
        self.assertEqual(list(screens([LARGE], [1], LARGE)), [[], [0]])
        self.assertEqual(len(list(screens([LARGE] * 30, [LARGE] * 200, LARGE))), 8)

    def test_screens_come_one_by_one(self):
        given = screens([0, 0], [LARGE, 2], 1)
        self.assertIs(iter(given), given)
        self.assertEqual([next(given), next(given), next(given), next(given)], [[0, 1], [0, 1], [0], [0]])

    def test_several_at_once(self):
        one, two, three = screens(Z, H, 3), screens(Z, H, 3), screens([7], [1], 4)
        self.assertEqual([next(one), next(one)], [[0, 1, 2, 3], [0, 2, 3, 4, 5]])
        self.assertEqual([next(two), next(three), next(two)], [[0, 1, 2, 3], [], [0, 2, 3, 4, 5]])
        self.assertEqual([list(one), list(two), list(three)], [[[5]], [[5]], [[0]]])

    def test_yielded_lists_are_new(self):
        given = screens([0], [9], 3)
        found = []
        for screen in given:
            found.append(list(screen))
            screen.append(7)
        self.assertEqual(found, [[0], [0], [0]])

    def test_screens_do_not_follow_later_changes_of_the_arguments(self):
        start, heights = [0, 0, 0], list(H)
        given = screens(start, heights, 3)
        found = [next(given)]
        start[:], heights[:] = [9], [1, 1]
        self.assertEqual(found + list(given), [[0, 1, 2, 3], [0, 2, 3, 4, 5], [5]])


class KindsOfWindowsTest(FunctionCase):

    def test_kinds_of_results(self):
        for made in [visible(Z, H, 4, 5), cards_at(Z, H, 4)] + list(screens(Z, H, 3)):
            self.assertEqual([type(made)] + [type(card) for card in made], [list] + [int] * len(made))
        self.assertIs(type(first_from(Z, H, 3)), int)

    def test_arguments_are_kept_and_results_are_new(self):
        for start, heights in ((Z, H), ([7], []), ([LARGE, 0], [LARGE, 1, 1]), ([0] * 30, [2] * 200)):
            pair = {"start": list(start), "heights": list(heights)}
            self.assert_arguments_kept(visible, {**pair, "low": 0, "high": 3})
            self.assert_arguments_kept(first_from, {**pair, "level": 2})
            self.assert_arguments_kept(cards_at, {**pair, "level": 1})
            self.assert_arguments_kept(screens, {**pair, "high": LARGE // 3})

    def test_wrong_arguments(self):
        for pair in ({"start": Z, "heights": H}, {"start": [LARGE], "heights": []}):
            self.assert_errors(visible, {**pair, "low": 4, "high": 5}, WRONG)
            self.assert_errors(first_from, {**pair, "level": 3}, WRONG)
            self.assert_errors(cards_at, {**pair, "level": 4}, WRONG)
            self.assert_errors(screens, {**pair, "high": LARGE // 2}, WRONG)

    def test_screens_raise_when_called_or_at_the_first_result(self):
        for error, name, values in (
            (InvalidStartError, "start", WRONG_STARTS),
            (InvalidCardsError, "heights", WRONG_CARDS),
            (InvalidNumberError, "high", WRONG_NUMBERS + [0]),
        ):
            for value in values:
                with self.assertRaises(error):
                    next(screens(**{"start": [0], "heights": [1], "high": 1, name: value}))

    def test_valid_edges_raise_nothing(self):
        for start in ([0], [LARGE], [0] * 30, [LARGE] * 30):
            for heights in ([], [1], [LARGE], [1] * 200, [LARGE] * 200):
                spans = plain_spans(start, heights)
                for low, high in ((0, 1), (0, LARGE), (LARGE - 1, LARGE)):
                    self.assertEqual(visible(start, heights, low, high), seen_between(spans, low, high))
                for level in (0, LARGE):
                    self.assertEqual(first_from(start, heights, level), first_of(spans, level))
                    self.assertEqual(cards_at(start, heights, level), cards_of_columns(spans, len(start), level))
                self.assertEqual(next(screens(start, heights, 1)), seen_between(spans, 0, 1))
                self.assertEqual(list(screens(start, heights, LARGE)), plain_screens(spans, LARGE))


if __name__ == "__main__":
    unittest.main()
