"""Point 2: the main guarantees for all starts and all cards."""

import math
import unittest

from lowcolumns.changes import effect_of_exchange, effect_of_insert
from lowcolumns.columns import bottoms_by_columns, effect_of_column
from lowcolumns.layouts import end_of, tops_of
from lowcolumns.starts import gap_between, gaps_along
from lowcolumns.tops import count_ways
from lowcolumns.wall import Wall
from tests.support import LARGE, mixed, small_samples, wide_samples


class GuaranteesTest(unittest.TestCase):

    def test_an_inserted_card_moves_no_card_up_and_none_down_by_more_than_its_height(self):
        for start, heights in list(small_samples(3)) + list(wide_samples()):
            if len(heights) == 200:
                heights = heights[:199]
            for index in range(0, len(heights) + 1, 1 + len(heights) // 7):
                for height in (1, 2, 5, LARGE):
                    growths = effect_of_insert(start, heights, index, height)
                    self.assertEqual(len(growths), len(heights))
                    self.assertEqual(growths[:index], [0] * index)
                    self.assertTrue(all(0 <= growth <= height for growth in growths), (start, heights, index, height))

    def test_the_tops_after_an_insert_show_the_same(self):
        for start, heights in small_samples(3):
            for index in range(len(heights) + 1):
                before, after = tops_of(start, heights), tops_of(start, heights[:index] + [2] + heights[index:])
                del after[index]
                self.assertTrue(all(0 <= new - old <= 2 for old, new in zip(before, after)), (start, heights, index))

    def test_an_exchange_changes_no_top_by_more_than_the_difference_of_the_heights(self):
        for start, heights in list(small_samples(4)) + list(wide_samples()):
            for index in range(0, len(heights) - 1, 1 + len(heights) // 20):
                growths = effect_of_exchange(start, heights, index)
                most = abs(heights[index] - heights[index + 1])
                self.assertEqual(len(growths), len(heights))
                self.assertTrue(all(-most <= growth <= most for growth in growths), (start, heights, index))

    def test_one_column_more_moves_no_card_down(self):
        for start, heights in list(small_samples(3)) + list(wide_samples()):
            start = start[:29]
            for extra in (0, 1, 3, LARGE):
                growths = effect_of_column(start, heights, extra)
                self.assertEqual(len(growths), len(heights))
                self.assertTrue(all(growth <= 0 for growth in growths), (start, heights, extra))

    def test_the_tops_and_bottoms_with_one_column_more_show_the_same(self):
        for start, heights in list(small_samples(3)) + list(wide_samples()):
            before, after = tops_of(start[:29], heights), tops_of(start[:29] + [1], heights)
            self.assertTrue(all(new <= old for old, new in zip(before, after)), (start, heights))
        for _, heights in wide_samples():
            bottoms = list(bottoms_by_columns(heights))
            self.assertEqual(bottoms, sorted(bottoms, reverse=True))

    def test_the_gaps_are_intervals_each_one_within_the_one_before(self):
        for start, heights in list(small_samples(3)) + list(wide_samples()):
            for other in ([0] * len(start), start[::-1], mixed(len(heights), len(start), 0, 9), start[1:] + [LARGE]):
                gaps = list(gaps_along(start, other, heights))
                self.assertEqual(len(gaps), len(heights) + 1)
                self.assertEqual(gaps[0], gap_between(start, other))
                self.assertTrue(all(least <= greatest for least, greatest in gaps), (start, other, heights))
                for outer, inner in zip(gaps, gaps[1:]):
                    self.assertTrue(outer[0] <= inner[0] and inner[1] <= outer[1], (start, other, heights))

    def test_the_sorted_ends_of_two_starts_show_the_same(self):
        for start, heights in small_samples(3):
            other = [3] + start[:-1]
            least, greatest = gap_between(start, other)
            ends = zip(sorted(end_of(start, heights)), sorted(end_of(other, heights)))
            self.assertTrue(all(least <= new - old <= greatest for old, new in ends), (start, heights))

    def test_the_ways_are_the_product_of_the_numbers_of_sets_of_columns(self):
        for start, heights in list(small_samples(4)) + list(wide_samples()):
            tops = tops_of([0] * len(start), heights)
            if all(top < LARGE for top in tops):
                sets = [math.comb(len(start), tops.count(top)) for top in set(tops) if top > 0]
                self.assertEqual(count_ways(len(start), tops), math.prod(sets), (start, heights))

    def test_a_wall_shows_the_same(self):
        for _, heights in wide_samples():
            wall = Wall(4)
            for at in range(0, min(len(heights), 180), 20):
                wall.add(*heights[at:at + 20])
            many = len(wall)
            for index, height in ((0, 5), (many // 2, 1), (many, LARGE)):
                before = wall.tops
                wall.put_in(index, height)
                after = wall.tops[:index] + wall.tops[index + 1:]
                self.assertTrue(all(0 <= new - old <= height for old, new in zip(before, after, strict=True)))
                wall.undo()
            if many > 1:
                before, most = wall.tops, abs(wall.heights[0] - wall.heights[1])
                wall.shift(0, 1)
                self.assertTrue(all(abs(new - old) <= most for old, new in zip(before, wall.tops, strict=True)))
                wall.undo()
            before = wall.tops
            wall.resize(5)
            self.assertTrue(all(new <= old for old, new in zip(before, wall.tops, strict=True)))


if __name__ == "__main__":
    unittest.main()
