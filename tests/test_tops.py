"""Point 15, with points 3 to 8 as far as they concern lowcolumns/tops.py."""

import itertools
import math
import unittest
from collections import Counter

from lowcolumns.errors import InvalidColumnsError, InvalidNumberError, InvalidTopsError, InvalidWayError
from lowcolumns.tops import cards_of_way, count_ways, fault, is_possible, nth_way, rank_way
from tests.support import (
    LARGE, NO_INTEGERS, NO_LISTS, WRONG, WRONG_TOPS, WRONG_WIDTHS, FunctionCase, lists_with, mixed, plain_laying,
    plain_tops,
)

EXAMPLE = """
>>> from lowcolumns.tops import cards_of_way, count_ways, fault, nth_way
>>> T = [0, 0, 2, 2, 3]
>>> [count_ways(2, T), nth_way(2, T, 0), nth_way(2, T, 1), cards_of_way(2, T, [0, 1, 0, 1, 0])]
[2, [0, 1, 0, 1, 0], [0, 1, 0, 1, 1], [2, 2, 1, 2, 1]]
>>> [fault(2, T), fault(2, [0, 1, 2]), fault(2, [0, 0, 0]), fault(2, [0, 0, 4, 4, 4]), fault(2, [0, 0, 4, 3])]
[None, 1, 2, 4, 3]
"""

GREATEST_TOP = LARGE - 1


def all_ways(columns, many, most):
    """Return the sorted list of the ways of all tops up to most, from all cards up to most + 1.

    Higher cards than these lead to no other tops up to most, and to no other ways.
    """
    found = {}
    for heights in itertools.product(range(1, most + 2), repeat=many):
        places = plain_laying([0] * columns, heights)[0]
        tops = tuple(top for _, top in places)
        if max(tops, default=0) <= most:
            found.setdefault(tops, set()).add(tuple(column for column, _ in places))
    return {tops: [list(way) for way in sorted(ways)] for tops, ways in found.items()}


def plain_possible(columns, tops):
    """Return whether tops of any size are possible: as often as each of them stands there, and in this order."""
    often = Counter(tops)
    if tops != sorted(tops) or often[0] != min(columns, len(tops)):
        return False
    return all(many <= columns for many in often.values())


def plain_fault(columns, tops):
    """Return the least index up to which the tops are not possible; those up to earlier ones are."""
    return next((index for index in range(len(tops)) if not plain_possible(columns, tops[:index + 1])), None)


def plain_count(columns, tops):
    if not plain_possible(columns, tops):
        return 0
    return math.prod(math.comb(columns, tops.count(top)) for top in set(tops) if top > 0)


def plain_cards(columns, tops, way):
    """Return the heights that lead from each top to the next one in its column, or to the last top plus 1."""
    heights = []
    for card, column in enumerate(way):
        later = [tops[other] for other in range(card + 1, len(way)) if way[other] == column]
        heights.append(min(later, default=max(tops) + 1) - tops[card])
    return heights


def wide_tops():
    """Yield numbers of columns and possible tops of all sizes up to the limits."""
    for seed, (columns, many) in enumerate([
        (1, 200), (2, 200), (3, 60), (5, 200), (12, 100), (29, 200), (30, 200), (30, 31), (30, 30), (30, 29), (30, 1),
        (7, 0), (1, 1), (30, 0), (1, 0),
    ]):
        for most in (1, 3, 25, 10 ** 27):
            yield columns, plain_tops([0] * columns, mixed(seed + most % 7, many, 1, most))


class TopsTest(FunctionCase):

    def test_example_of_the_document(self):
        self.assert_example(EXAMPLE)

    def test_interface(self):
        for function, signature in (
            (is_possible, "(columns, tops)"),
            (fault, "(columns, tops)"),
            (count_ways, "(columns, tops)"),
            (nth_way, "(columns, tops, number)"),
            (rank_way, "(columns, tops, way)"),
            (cards_of_way, "(columns, tops, way)"),
        ):
            self.assert_interface(function, "lowcolumns.tops", signature)

    def test_tops_in_any_order_are_as_all_cards_show(self):
        for columns, most, length in ((1, 4, 5), (2, 4, 5), (3, 3, 5), (4, 2, 6), (5, 1, 7)):
            ways = {}
            for many in range(length + 1):
                ways.update(all_ways(columns, many, most))
                for tops in itertools.product(range(most + 1), repeat=many):
                    self.assert_listed(columns, list(tops), ways)

    def assert_listed(self, columns, tops, ways):
        """Compare with the ways that are listed for all possible tops."""
        listed = ways.get(tuple(tops), [])
        wrong = [index for index in range(len(tops)) if tuple(tops[:index + 1]) not in ways]
        self.assertIs(is_possible(columns, tops), listed != [])
        self.assertEqual(fault(columns, tops), min(wrong, default=None))
        self.assertEqual(count_ways(columns, tops), len(listed))
        self.assertEqual([nth_way(columns, tops, number) for number in range(len(listed))], listed)
        self.assertEqual([rank_way(columns, tops, way) for way in listed], list(range(len(listed))))
        for way in listed:
            self.assertEqual(cards_of_way(columns, tops, way), plain_cards(columns, tops, way))
        arguments = {"columns": columns, "tops": tops}
        self.assert_raises_exactly(InvalidNumberError, nth_way, {**arguments, "number": len(listed)})

    def test_all_lists_of_columns_are_ways_or_none(self):
        for columns, tops in (
            (1, [0, 3, 4]), (2, [0, 0, 2, 2, 3]), (3, [0, 0, 0, 1, 2, 2]), (3, [0, 0, 0, 4, 4]), (3, [0, 0]),
            (4, [0, 0, 0, 0, 5, 5]), (2, [0, 1, 1]), (2, [0, 0, 2, 1]), (2, [0, 0, 1, 1, 1]), (3, []),
        ):
            listed = all_ways(columns, len(tops), max(tops, default=0)).get(tuple(tops), [])
            for way in itertools.product(range(columns), repeat=len(tops)):
                way = list(way)
                if way in listed:
                    self.assertEqual(rank_way(columns, tops, way), listed.index(way))
                    self.assertEqual(cards_of_way(columns, tops, way), plain_cards(columns, tops, way))
                else:
                    for function in (rank_way, cards_of_way):
                        arguments = {"columns": columns, "tops": tops, "way": way}
                        self.assert_raises_exactly(InvalidWayError, function, arguments)

    def test_wide_tops_are_as_by_hand(self):
        for columns, tops in wide_tops():
            self.assertIs(is_possible(columns, tops), True)
            self.assertIsNone(fault(columns, tops))
            self.assertEqual(count_ways(columns, tops), plain_count(columns, tops))
            self.assert_ways_of(columns, tops)

    def assert_ways_of(self, columns, tops):
        """Lay the cards of some ways again."""
        many = count_ways(columns, tops)
        before = None
        for number in sorted({0, 1, many // 3, many // 2, many - 2, many - 1}):
            if 0 <= number < many:
                way = nth_way(columns, tops, number)
                self.assertTrue(before is None or before < way)
                before = way
                self.assertEqual(rank_way(columns, tops, way), number)
                heights = cards_of_way(columns, tops, way)
                places, stages = plain_laying([0] * columns, heights)
                self.assertEqual(places, list(zip(way, tops)))
                last = tops[-1] + 1 if tops else 0
                self.assertEqual(stages[-1], [last if column in way else 0 for column in range(columns)])
                self.assertTrue(all(1 <= height <= LARGE for height in heights))

    def test_the_cards_of_the_tops_are_among_the_ways(self):
        for seed in range(30):
            columns = 1 + seed % 7
            heights = mixed(seed, 3 * seed, 1, 1 + seed // 2)
            places = plain_laying([0] * columns, heights)[0]
            tops, way = [top for _, top in places], [column for column, _ in places]
            number = rank_way(columns, tops, way)
            self.assertTrue(0 <= number < count_ways(columns, tops))
            self.assertEqual(nth_way(columns, tops, number), way)

    def test_changed_tops_are_as_by_hand(self):
        for columns, tops in wide_tops():
            for place in range(0, len(tops), 1 + len(tops) // 5):
                for changed in (tops[place] - 1, tops[place] + 1, 0, GREATEST_TOP, tops[place - 1]):
                    other = tops[:place] + [max(changed, 0)] + tops[place + 1:]
                    wrong = plain_fault(columns, other)
                    self.assertEqual(fault(columns, other), wrong)
                    self.assertIs(is_possible(columns, other), wrong is None)
                    self.assertEqual(count_ways(columns, other), plain_count(columns, other))


class TopsEdgesTest(FunctionCase):

    def test_no_tops(self):
        for columns in (1, 2, 30):
            self.assertIs(is_possible(columns, []), True)
            self.assertIsNone(fault(columns, []))
            self.assertEqual(count_ways(columns, []), 1)
            self.assertEqual(nth_way(columns, [], 0), [])
            self.assertEqual(rank_way(columns, [], []), 0)
            self.assertEqual(cards_of_way(columns, [], []), [])
            self.assert_no_number(columns, [], 1)

    def assert_no_number(self, columns, tops, number):
        self.assert_raises_exactly(InvalidNumberError, nth_way, {"columns": columns, "tops": tops, "number": number})

    def assert_no_way(self, columns, tops, way):
        for function in (rank_way, cards_of_way):
            self.assert_raises_exactly(InvalidWayError, function, {"columns": columns, "tops": tops, "way": way})

    def test_the_first_tops_are_0(self):
        for columns in (1, 2, 5, 29, 30):
            for many in range(columns + 1):
                zeros = [0] * many
                self.assertIsNone(fault(columns, zeros))
                self.assertEqual(nth_way(columns, zeros, 0), list(range(many)))
                self.assertEqual(cards_of_way(columns, zeros, list(range(many))), [1] * many)
                if many < columns:
                    self.assertEqual(fault(columns, zeros + [1]), many)
            self.assertEqual(fault(columns, [0] * (columns + 1)), columns)
            self.assertEqual(fault(columns, [0] * 200), columns)
            self.assertIsNone(fault(columns, [0] * columns + [1] * columns))
            self.assertEqual(fault(columns, [0] * columns + [1] * (columns + 1)), 2 * columns)

    def test_one_column(self):
        ascending = list(range(0, 400, 2))
        self.assertEqual(count_ways(1, ascending), 1)
        self.assertEqual(nth_way(1, ascending, 0), [0] * 200)
        self.assertEqual(rank_way(1, ascending, [0] * 200), 0)
        self.assertEqual(cards_of_way(1, ascending, [0] * 200), [2] * 199 + [1])
        self.assertEqual(cards_of_way(1, [0, GREATEST_TOP], [0, 0]), [GREATEST_TOP, 1])
        self.assertEqual([fault(1, [0, 3, 3]), fault(1, [0, 3, 2]), fault(1, [1]), fault(1, [0, 0])], [2, 2, 0, 1])

    def test_the_least_and_the_greatest_top(self):
        self.assertEqual(cards_of_way(2, [0, 0, GREATEST_TOP], [0, 1, 1]), [LARGE, GREATEST_TOP, 1])
        self.assertEqual(count_ways(2, [0, 0, GREATEST_TOP]), 2)
        self.assertIsNone(fault(30, [0] * 30 + [GREATEST_TOP] * 30))
        self.assertEqual(fault(30, [0] * 30 + [GREATEST_TOP] * 31), 60)
        self.assertEqual(fault(2, [GREATEST_TOP]), 0)
        self.assertEqual(fault(2, [0, 0, GREATEST_TOP, 1]), 3)

    def test_the_last_cards_end_at_the_last_top_plus_1(self):
        self.assertEqual(cards_of_way(3, [0, 0, 0, 5, 9], [0, 1, 2, 1, 0]), [9, 5, 10, 5, 1])
        self.assertEqual(cards_of_way(3, [0, 0], [0, 1]), [1, 1])
        self.assertEqual(cards_of_way(2, [0, 0, 7, 7], [0, 1, 0, 1]), [7, 7, 1, 1])

    def test_a_descending_top_is_a_fault_and_no_error(self):
        for tops in ([5, 4, 3], [0, 0, 4, 3], [0, 0, 3, 1, 9], [0, 0, 4, 0]):
            self.assertIs(is_possible(2, tops), False)
            self.assertEqual(count_ways(2, tops), 0)
        self.assertEqual([fault(2, [5, 4, 3]), fault(2, [0, 0, 3, 1, 9]), fault(2, [0, 0, 4, 0])], [0, 3, 3])

    def test_a_top_that_comes_back(self):
        # Two cards have this top already and none of the next ones can have it again.
        self.assertEqual(fault(2, [0, 0, 3, 3, 4, 3]), 5)
        self.assertEqual(fault(3, [0, 0, 0, 3, 3, 3, 4, 4, 4, 4]), 9)
        self.assertIsNone(fault(3, [0, 0, 0, 3, 3, 3, 4, 4, 4, 5]))

    def test_the_order_of_the_ways(self):
        tops = [0, 0, 0, 1, 1, 2]
        expected = [
            [0, 1, 2, *first, last] for first in ([0, 1], [0, 2], [1, 2]) for last in (0, 1, 2)
        ]
        self.assertEqual([nth_way(3, tops, number) for number in range(9)], expected)
        self.assertEqual([rank_way(3, tops, way) for way in expected], list(range(9)))

    def test_sets_of_all_sizes(self):
        for columns in (1, 2, 6, 13):
            for size in range(1, columns + 1):
                tops = [0] * columns + [1] * size
                sets = list(itertools.combinations(range(columns), size))
                self.assertEqual(count_ways(columns, tops), len(sets))
                for number in sorted({0, 1, len(sets) // 3, len(sets) // 2, len(sets) - 2, len(sets) - 1}):
                    if 0 <= number < len(sets):
                        way = list(range(columns)) + list(sets[number])
                        self.assertEqual(nth_way(columns, tops, number), way)
                        self.assertEqual(rank_way(columns, tops, way), number)

    def test_great_numbers_of_ways(self):
        # One column of thirty for each top: the columns are the digits of the number.
        tops = [0] * 30 + list(range(1, 171))
        many = 30 ** 170
        self.assertEqual(count_ways(30, tops), many)
        for number in (0, 1, 29, 30, 10 ** 250, many // 7, many - 30, many - 1):
            digits = []
            for _ in range(170):
                digits.append(number // 30 ** len(digits) % 30)
            way = list(range(30)) + digits[::-1]
            self.assertEqual(nth_way(30, tops, number), way)
            self.assertEqual(rank_way(30, tops, way), number)
        self.assert_no_number(30, tops, many)
        for number in (many + 1, 10 ** 259, 10 ** 260 - 1, -1, -many):
            self.assert_no_number(30, tops, number)

    def test_the_number_of_ways_is_the_product_of_the_numbers_of_sets(self):
        tops = [0] * 30 + [4] * 15 + [5] + [7] * 29 + [9] * 30 + [10] * 2
        many = math.comb(30, 15) * 30 * 30 * 435
        self.assertEqual(count_ways(30, tops), many)
        last = list(range(30)) + list(range(15, 30)) + [29] + list(range(1, 30)) + list(range(30)) + [28, 29]
        self.assertEqual(nth_way(30, tops, many - 1), last)
        self.assertEqual(rank_way(30, tops, last), many - 1)
        self.assert_no_number(30, tops, many)
        self.assert_ways_of_number(30, tops, many // 2)

    def assert_ways_of_number(self, columns, tops, number):
        way = nth_way(columns, tops, number)
        self.assertEqual(rank_way(columns, tops, way), number)
        heights = cards_of_way(columns, tops, way)
        self.assertEqual(plain_laying([0] * columns, heights)[0], list(zip(way, tops)))

    def test_200_tops(self):
        tops = [index // 30 for index in range(200)]
        self.assertEqual(count_ways(30, tops), math.comb(30, 20))
        self.assertEqual(nth_way(30, tops, 0), [index % 30 for index in range(200)])
        self.assertEqual(cards_of_way(30, tops, nth_way(30, tops, 0)), [1] * 170 + [2] * 10 + [1] * 20)
        self.assert_ways_of_number(30, tops, math.comb(30, 20) - 1)

    def test_ways_that_are_none(self):
        tops = [0, 0, 2, 2, 3]
        for way in (
            [1, 0, 0, 1, 0], [0, 0, 0, 1, 0], [0, 1, 1, 0, 0], [0, 1, 0, 0, 0], [0, 1, 1, 1, 0], [0, 1, 0, 1, 2],
            [0, 1, 0, 1, -1], [0, 1, 0, 1], [0, 1, 0, 1, 0, 0], [], [0, 1, 0, 1, True], [False, 1, 0, 1, 0],
            [0, True, 0, 1, 0], [0, 1, 0, 1, 0.0], [0, 1, 0, 1, "0"], [0, 1, 0, 1, None], (0, 1, 0, 1, 0), "01010",
            [0, 1, 0, 1, [0]], [0, 1, 0, 1, LARGE],
        ):
            self.assert_no_way(2, tops, way)
        self.assert_no_way(1, [], [0])
        self.assert_no_way(3, [0, 0], [1, 2])
        self.assert_no_way(3, [0, 0, 0, 2, 2], [0, 1, 2, 2, 1])
        self.assert_no_way(3, [0, 0, 0, 2, 2], [0, 2, 1, 1, 2])

    def test_impossible_tops_have_no_way_and_no_number(self):
        for columns, tops in ((2, [0, 0, 0]), (2, [1]), (1, [0, 3, 2]), (30, [0, 1]), (2, [0, 0, 4, 4, 4])):
            for number in (0, 1, LARGE, 10 ** 259):
                self.assert_no_number(columns, tops, number)
            for way in ([0] * len(tops), list(range(len(tops))), [], None, [0, 1, 0, 1, 0]):
                self.assert_no_way(columns, tops, way)


class KindsOfTopsTest(FunctionCase):

    def test_kinds_of_results(self):
        tops = [0, 0, 2, 2, 3]
        self.assertIs(type(count_ways(2, tops)), int)
        self.assertIs(type(rank_way(2, tops, [0, 1, 0, 1, 1])), int)
        self.assertIs(type(fault(2, [0, 3])), int)
        for made in (nth_way(2, tops, 1), cards_of_way(2, tops, [0, 1, 0, 1, 1])):
            self.assertEqual([type(made)] + [type(number) for number in made], [list] + [int] * 5)

    def test_arguments_are_kept_and_results_are_new(self):
        for columns, tops in ((2, [0, 0, 2, 2, 3]), (30, [0] * 30 + [7] * 9), (1, []), (3, [0, 4, 1]), (2, [9, 1])):
            pair = {"columns": columns, "tops": list(tops)}
            for function in (is_possible, fault, count_ways):
                self.assert_arguments_kept(function, pair)
            if is_possible(columns, tops):
                self.assert_arguments_kept(nth_way, {**pair, "number": 0})
                for function in (rank_way, cards_of_way):
                    self.assert_arguments_kept(function, {**pair, "way": nth_way(columns, tops, 0)})

    def test_wrong_arguments(self):
        number = (InvalidNumberError, NO_INTEGERS + [-1, 2, LARGE, -LARGE, 10 ** 259])
        ways = NO_LISTS + [[], [0, 1], [0, 1, 0, 1, 0, 1], [0] * 200] + lists_with(0, NO_INTEGERS + [-1, 2, LARGE])
        wrong = {**WRONG, "number": number, "way": (InvalidWayError, ways)}
        for tops in ([0, 0, 2, 2, 3], [0, 0, LARGE - 1]):
            good = {"columns": 2, "tops": tops}
            for function in (is_possible, fault, count_ways):
                self.assert_errors(function, good, wrong)
            self.assert_errors(nth_way, {**good, "number": 1}, wrong)
            way = nth_way(2, tops, 1)
            for function in (rank_way, cards_of_way):
                self.assert_errors(function, {**good, "way": way}, wrong)

    def test_columns_are_checked_before_the_tops_and_these_before_the_others(self):
        for function in (nth_way, rank_way, cards_of_way):
            for last in (None, -1, [9], 0, []):
                with self.assertRaises(InvalidColumnsError):
                    function(31, [LARGE], last)
                with self.assertRaises(InvalidTopsError):
                    function(30, [LARGE], last)

    def test_wrong_values_at_any_place_of_the_tops(self):
        for wrong in (True, False, "0", None, -1, LARGE, 0.0, [0], (0,)):
            for place in (0, 1, 30, 98, 198, 199):
                tops = [0] * 200
                tops[place] = wrong
                for function in (is_possible, fault, count_ways):
                    self.assert_raises_exactly(InvalidTopsError, function, {"columns": 30, "tops": tops})

    def test_valid_edges_raise_nothing(self):
        for columns in (1, 30):
            for tops in ([], [0], [GREATEST_TOP], [0] * 200, [GREATEST_TOP] * 200, list(range(200, 0, -1))):
                self.assertIs(is_possible(columns, tops), plain_possible(columns, tops))
                self.assertEqual(fault(columns, tops), plain_fault(columns, tops))
                self.assertEqual(count_ways(columns, tops), plain_count(columns, tops))

    def test_wrong_values_are_wrong_for_all_functions(self):
        for columns in WRONG_WIDTHS:
            for function in (is_possible, fault, count_ways):
                self.assert_raises_exactly(InvalidColumnsError, function, {"columns": columns, "tops": []})
        for tops in WRONG_TOPS:
            for function in (is_possible, fault, count_ways):
                self.assert_raises_exactly(InvalidTopsError, function, {"columns": 30, "tops": tops})


if __name__ == "__main__":
    unittest.main()
