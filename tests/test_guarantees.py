"""Point 2, as far as lowcolumns/layouts.py and lowcolumns/changes.py go."""

import unittest

from lowcolumns.changes import effect_of_exchange, effect_of_insert
from lowcolumns.layouts import tops_of
from tests.support import LARGE, small_samples, wide_samples


class GuaranteesTest(unittest.TestCase):

    def test_an_inserted_card_moves_no_card_up_and_none_down_by_more_than_its_height(self):
        for start, heights in list(small_samples(3)) + list(wide_samples()):
            if len(heights) == 200:
                heights = heights[:199]
            for index in range(0, len(heights) + 1, 1 + len(heights) // 7):
                for height in (1, 2, 5, LARGE):
                    growths = effect_of_insert(start, heights, index, height)
                    self.assertEqual(len(growths), len(heights))
                    self.assertEqual(growths[:index], [0] * index)
                    self.assertTrue(all(0 <= growth <= height for growth in growths), (start, heights, index, height))

    def test_the_tops_after_an_insert_show_the_same(self):
        for start, heights in small_samples(3):
            for index in range(len(heights) + 1):
                before, after = tops_of(start, heights), tops_of(start, heights[:index] + [2] + heights[index:])
                del after[index]
                self.assertTrue(all(0 <= new - old <= 2 for old, new in zip(before, after)), (start, heights, index))

    def test_an_exchange_changes_no_top_by_more_than_the_difference_of_the_heights(self):
        for start, heights in list(small_samples(4)) + list(wide_samples()):
            for index in range(0, len(heights) - 1, 1 + len(heights) // 20):
                growths = effect_of_exchange(start, heights, index)
                most = abs(heights[index] - heights[index + 1])
                self.assertEqual(len(growths), len(heights))
                self.assertTrue(all(-most <= growth <= most for growth in growths), (start, heights, index))


if __name__ == "__main__":
    unittest.main()
