"""Point 9, with points 3 to 8 as far as they concern lowcolumns/layouts.py."""

import unittest

from lowcolumns.layouts import cards_in, end_of, is_cards, is_start, layout, steps, tops_of
from tests.support import (
    H, LARGE, WRONG, WRONG_CARDS, WRONG_STARTS, Z, FunctionCase, plain_laying, plain_tops, small_samples,
    wide_samples, wrong_columns,
)

EXAMPLE = """
>>> from lowcolumns.layouts import cards_in, end_of, layout, steps, tops_of
>>> Z, H = [0, 0, 0], [5, 2, 4, 3, 1, 2]
>>> layout(Z, H)
[(0, 0), (1, 0), (2, 0), (1, 2), (2, 4), (0, 5)]
>>> [tops_of(Z, H), end_of(Z, H), cards_in(Z, H, 1), layout([1, 0, 0], [4, 4], right=True)]
[[0, 0, 0, 2, 4, 5], [7, 5, 5], [1, 3], [(2, 0), (1, 0)]]
>>> list(steps([0, 1], [2, 2]))
[[0, 1], [2, 1], [2, 3]]
"""


class LayoutsTest(FunctionCase):

    def test_example_of_the_document(self):
        self.assert_example(EXAMPLE)

    def test_interface(self):
        for function, signature in (
            (is_start, "(value)"),
            (is_cards, "(value)"),
            (layout, "(start, heights, *, right=False)"),
            (tops_of, "(start, heights)"),
            (end_of, "(start, heights)"),
            (steps, "(start, heights)"),
            (cards_in, "(start, heights, column)"),
        ):
            self.assert_interface(function, "lowcolumns.layouts", signature)

    def test_small_samples_are_laid_as_by_hand(self):
        for start, heights in small_samples():
            self.assert_laid(start, heights)

    def test_wide_samples_are_laid_as_by_hand(self):
        for start, heights in wide_samples():
            self.assert_laid(start, heights)

    def assert_laid(self, start, heights):
        places, stages = plain_laying(start, heights)
        tops = plain_tops(start, heights)
        self.assertEqual(layout(start, heights), places)
        self.assertEqual(layout(start, heights, right=False), places)
        self.assertEqual(layout(start, heights, right=True), plain_laying(start, heights, right=True)[0])
        self.assertEqual(tops_of(start, heights), tops)
        self.assertEqual(tops, sorted(tops))
        self.assertEqual(end_of(start, heights), stages[-1])
        self.assertEqual(list(steps(start, heights)), stages)
        for column in range(len(start)):
            cards = [card for card, (at, _) in enumerate(places) if at == column]
            self.assertEqual(cards_in(start, heights, column), cards)

    def test_left_one_and_right_one_of_equally_low_columns(self):
        self.assertEqual(layout([1, 0, 2, 0, 0], [9, 9, 9, 9]), [(1, 0), (3, 0), (4, 0), (0, 1)])
        self.assertEqual(layout([1, 0, 2, 0, 0], [9, 9, 9, 9], right=True), [(4, 0), (3, 0), (1, 0), (0, 1)])
        self.assertEqual(layout([0] * 30, [1, 1]), [(0, 0), (1, 0)])
        self.assertEqual(layout([0] * 30, [1, 1], right=True), [(29, 0), (28, 0)])
        self.assertEqual(tops_of([2, 0, 0], [2, 1, 1]), [0, 0, 1])
        self.assertEqual(end_of([0, 0], [3]), [3, 0])
        self.assertEqual(list(steps([0, 0], [3])), [[0, 0], [3, 0]])
        self.assertEqual((cards_in([0, 0], [3], 0), cards_in([0, 0], [3], 1)), ([0], []))

    def test_one_column(self):
        self.assertEqual(layout([3], [1, LARGE, 2]), [(0, 3), (0, 4), (0, LARGE + 4)])
        self.assertEqual(layout([3], [1, LARGE, 2], right=True), [(0, 3), (0, 4), (0, LARGE + 4)])
        self.assertEqual(end_of([3], [1, LARGE, 2]), [LARGE + 6])
        self.assertEqual(cards_in([3], [1, LARGE, 2], 0), [0, 1, 2])

    def test_thirty_columns(self):
        start = list(range(30))
        self.assertEqual(layout(start, [31, 1]), [(0, 0), (1, 1)])
        self.assertEqual(cards_in(start, [31, 1], 29), [])
        self.assertEqual(cards_in([1] * 29 + [0], [5], 29), [0])
        self.assertEqual(layout([LARGE] * 30, [1], right=True), [(29, LARGE)])

    def test_no_cards(self):
        for start in ([0], [LARGE], [4, 2, 4], [0] * 30):
            self.assertEqual((layout(start, []), layout(start, [], right=True), tops_of(start, [])), ([], [], []))
            self.assertEqual((end_of(start, []), list(steps(start, []))), (start, [start]))
            self.assertEqual(cards_in(start, [], len(start) - 1), [])

    def test_two_hundred_cards(self):
        self.assertEqual(tops_of([0], [1] * 200), list(range(200)))
        self.assertEqual(end_of([LARGE], [LARGE] * 200), [201 * LARGE])
        self.assertEqual(len(list(steps([0, 0], [1] * 200))), 201)
        self.assertEqual(cards_in([0, 0], [1] * 200, 1), list(range(1, 200, 2)))

    def test_kinds_of_results(self):
        for made in (layout(Z, H), layout(Z, H, right=True), tops_of(Z, H), end_of(Z, H), cards_in(Z, H, 1)):
            self.assertIs(type(made), list)
        for place in layout(Z, H) + layout(Z, H, right=True):
            self.assertEqual([type(place), type(place[0]), type(place[1])], [tuple, int, int])
        for stage in steps(Z, H):
            self.assertIs(type(stage), list)
        for value in tops_of(Z, H) + end_of(Z, H) + cards_in(Z, H, 1):
            self.assertIs(type(value), int)

    def test_arguments_are_kept_and_results_are_new(self):
        for start, heights in ((Z, H), ([7], []), ([LARGE, 0], [LARGE, 1, 1]), ([0] * 30, [2] * 200)):
            pair = {"start": list(start), "heights": list(heights)}
            for function in (layout, tops_of, end_of, steps):
                self.assert_arguments_kept(function, pair)
            self.assert_arguments_kept(layout, {**pair, "right": True})
            self.assert_arguments_kept(layout, {**pair, "right": False})
            self.assert_arguments_kept(cards_in, {**pair, "column": 0})

    def test_right_is_passed_by_name_only(self):
        with self.assertRaises(TypeError):
            layout(Z, H, True)

    def test_yielded_lists_are_new_during_the_steps_too(self):
        given = steps([0, 1], [2, 2])
        stages = []
        for stage in given:
            stages.append(list(stage))
            stage[0] = 50
            stage.append(0)
        self.assertEqual(stages, [[0, 1], [2, 1], [2, 3]])

    def test_steps_do_not_follow_later_changes_of_the_arguments(self):
        start, heights = [0, 1], [2, 2]
        given = steps(start, heights)
        stages = [next(given)]
        start[:] = [9, 9, 9]
        heights[:] = [7]
        stages += list(given)
        self.assertEqual(stages, [[0, 1], [2, 1], [2, 3]])

    def test_steps_are_yielded(self):
        given = steps(Z, H)
        self.assertIs(iter(given), given)
        self.assertEqual((next(given), next(given)), ([0, 0, 0], [5, 0, 0]))

    def test_wrong_arguments(self):
        pair = {"start": Z, "heights": H}
        for function in (layout, tops_of, end_of, steps):
            self.assert_errors(function, pair, WRONG)
        self.assert_errors(layout, {**pair, "right": True}, WRONG)
        self.assert_errors(cards_in, {**pair, "column": 2}, {**WRONG, "column": wrong_columns(3)})
        self.assert_errors(cards_in, {**pair, "start": [0], "column": 0}, {**WRONG, "column": wrong_columns(1)})

    def test_valid_edges_raise_nothing(self):
        for start in ([0], [LARGE], [0] * 30, [LARGE] * 30, [0, LARGE]):
            for heights in ([], [1], [LARGE], [1] * 200, [LARGE] * 200):
                self.assertTrue(is_start(start) and is_cards(heights))
                self.assert_laid(start, heights)


class KindsTest(FunctionCase):
    """is_start and is_cards, which accept any value."""

    def test_starts(self):
        for value in ([0], [LARGE], [0] * 30, [0, 1, LARGE, 5]):
            self.assertIs(is_start(value), True)
            self.assertIs(is_start(value=value), True)

    def test_cards(self):
        for value in ([], [1], [LARGE], [1] * 200, [LARGE] * 200, [3, 1, LARGE]):
            self.assertIs(is_cards(value), True)
            self.assertIs(is_cards(value=value), True)

    def test_no_starts(self):
        for value in WRONG_STARTS:
            with self.subTest(value=repr(value)):
                self.assertIs(is_start(value), False)

    def test_no_cards(self):
        for value in WRONG_CARDS:
            with self.subTest(value=repr(value)):
                self.assertIs(is_cards(value), False)

    def test_a_wrong_item_at_any_place(self):
        for wrong in (True, "1", None, -1, LARGE + 1, 1.0, [1]):
            for place in range(30):
                value = [1] * 30
                value[place] = wrong
                self.assertEqual((is_start(value), is_cards(value)), (False, False))
            for place in (0, 1, 99, 198, 199):
                value = [1] * 200
                value[place] = wrong
                self.assertIs(is_cards(value), False)

    def test_the_value_is_unchanged(self):
        value = [3, 0, True]
        self.assertEqual((is_start(value), is_cards(value), value), (False, False, [3, 0, True]))


if __name__ == "__main__":
    unittest.main()
