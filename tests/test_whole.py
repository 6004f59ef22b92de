"""What the document promises over the whole program: the files and the walls answer alike."""

import doctest
import math
import os
import unittest

from lowcolumns.changes import (
    effect_of_exchange, effect_of_insert, effect_of_move, effect_of_remove, effect_of_stretch,
)
from lowcolumns.columns import greatest_bottom
from lowcolumns.layouts import cards_in, end_of, layout, steps, tops_of
from lowcolumns.text import format_cards, parse_cards, picture
from lowcolumns.tops import cards_of_way, count_ways, fault, is_possible, nth_way, rank_way
from lowcolumns.wall import GapRightWall, GapWall, RightWall, Wall
from lowcolumns.windows import cards_at, first_from, screens, visible
from tests.support import LARGE, mixed, small_samples, wide_samples

README = os.path.join(os.path.dirname(os.path.dirname(os.path.abspath(__file__))), "README.md")


def samples_from_zero():
    """Yield numbers of columns and cards."""
    for start, heights in small_samples(3):
        if not any(start):
            yield len(start), heights
    for start, heights in wide_samples():
        yield len(start), heights


def filled(made, columns, heights):
    """Return a wall with the cards, at most 20 of them in a call."""
    wall = made(columns)
    for at in range(0, len(heights), 20):
        wall.add(*heights[at:at + 20])
    return wall


def growths(before, after):
    return [new - old for old, new in zip(before, after, strict=True)]


def without(items, index):
    return items[:index] + items[index + 1:]


class TopsOfLayoutsTest(unittest.TestCase):

    def test_tops_of_layouts_are_possible_and_their_columns_are_a_way(self):
        for columns, heights in samples_from_zero():
            places = layout([0] * columns, heights)
            tops, way = tops_of([0] * columns, heights), [column for column, _ in places]
            if all(top < LARGE for top in tops):
                self.assertIs(is_possible(columns, tops), True)
                self.assertIsNone(fault(columns, tops))
                number = rank_way(columns, tops, way)
                self.assertEqual(nth_way(columns, tops, number), way)
                again = cards_of_way(columns, tops, way)
                self.assertEqual(layout([0] * columns, again), places)
                self.assert_as_long_as_the_next_top_tells(columns, heights, again)

    def assert_as_long_as_the_next_top_tells(self, columns, heights, again):
        """Only the last cards of the columns may have other heights."""
        for column in range(columns):
            cards = cards_in([0] * columns, heights, column)
            self.assertEqual([heights[card] for card in cards[:-1]], [again[card] for card in cards[:-1]])

    def test_the_ways_are_the_product_of_the_numbers_of_sets_of_columns(self):
        for columns, heights in samples_from_zero():
            tops = tops_of([0] * columns, heights)
            if all(top < LARGE for top in tops):
                sets = [math.comb(columns, tops.count(top)) for top in sorted(set(tops)) if top != 0]
                self.assertEqual(count_ways(columns, tops), math.prod(sets))

    def test_tops_of_other_starts_are_possible_only_by_chance(self):
        self.assertIs(is_possible(2, tops_of([1, 0], [1, 1])), False)
        self.assertIs(is_possible(2, tops_of([0, 0], [1, 1])), True)
        self.assertIs(is_possible(2, tops_of([0, 1], [5])), True)


class EffectsOnWallsTest(unittest.TestCase):

    def walls(self):
        """Yield walls from which each change is tried, with their starts and heights."""
        for columns, heights in samples_from_zero():
            wall = filled(Wall, columns, heights)
            yield wall, [0] * columns, wall.heights

    def changed_tops(self, wall, name, *arguments):
        """Return the tops after a call, which is undone."""
        getattr(wall, name)(*arguments)
        tops = wall.tops
        wall.undo()
        return tops

    def chosen(self, many):
        return sorted({0, 1, many // 2, many - 2, many - 1} & set(range(many)))

    def test_put_in(self):
        for wall, start, heights in self.walls():
            if len(heights) < 200:
                for index in self.chosen(len(heights) + 1):
                    for height in (1, 3, LARGE):
                        after = self.changed_tops(wall, "put_in", index, height)
                        self.assertEqual(
                            effect_of_insert(start, heights, index, height), growths(wall.tops, without(after, index)))

    def test_take_out(self):
        for wall, start, heights in self.walls():
            for index in self.chosen(len(heights)):
                after = self.changed_tops(wall, "take_out", index)
                self.assertEqual(effect_of_remove(start, heights, index), growths(without(wall.tops, index), after))

    def test_shift(self):
        for wall, start, heights in self.walls():
            for index in self.chosen(len(heights)):
                for place in self.chosen(len(heights)):
                    after = self.changed_tops(wall, "shift", index, place)
                    self.assertEqual(
                        effect_of_move(start, heights, index, place),
                        growths(without(wall.tops, index), without(after, place)))
                if index + 1 < len(heights):
                    after = self.changed_tops(wall, "shift", index, index + 1)
                    self.assertEqual(effect_of_exchange(start, heights, index), growths(wall.tops, after))

    def test_stretch(self):
        for wall, start, heights in self.walls():
            for index in self.chosen(len(heights)):
                for height in (1, 3, LARGE):
                    after = self.changed_tops(wall, "stretch", index, height)
                    self.assertEqual(effect_of_stretch(start, heights, index, height), growths(wall.tops, after))


class WallsAsLayoutsTest(unittest.TestCase):

    def test_a_wall_is_a_layout_from_zero(self):
        for columns, heights in samples_from_zero():
            start = [0] * columns
            for made, right in ((Wall, False), (RightWall, True)):
                wall = filled(made, columns, heights)
                places = layout(start, heights, right=right)
                self.assertEqual((wall.heights, wall.width), (heights, columns))
                self.assertEqual(list(zip(wall.card_columns, wall.tops)), places)
            self.assertEqual(filled(Wall, columns, heights).end, end_of(start, heights))

    def test_a_gap_is_a_part_of_the_height(self):
        for columns, heights in samples_from_zero():
            for gap in (1, 4):
                grown = [height + gap for height in heights]
                for made, right in ((GapWall, False), (GapRightWall, True)):
                    wall = made(columns, gap)
                    for at in range(0, len(heights), 20):
                        wall.add(*heights[at:at + 20])
                    if max(heights, default=0) + gap <= LARGE:
                        places = layout([0] * columns, grown, right=right)
                        self.assertEqual(list(zip(wall.card_columns, wall.tops)), places)

    def test_walls_read_from_strings(self):
        for columns, heights in samples_from_zero():
            text = format_cards([0] * columns, heights)
            for made in (Wall, RightWall, GapWall, GapRightWall):
                wall, other = made.read(text), filled(made, columns, heights)
                self.assertTrue(wall == other)
                shown = (wall.tops, wall.end, wall.card_columns, wall.report())
                self.assertEqual(shown, (other.tops, other.end, other.card_columns, other.report()))
                self.assertEqual(format_cards([0] * wall.width, wall.heights), text)

    def test_a_wall_without_cards_and_then_with_those_of_a_string(self):
        text = "0 0 0: 5 2 4 3 1 2"
        start, heights = parse_cards(text)
        for made in (Wall, RightWall, GapWall, GapRightWall):
            wall = made.read("0 0 0:")
            self.assertTrue(wall == made(3))
            self.assertFalse(wall == made.read(text))
            wall.add(*heights)
            self.assertTrue(wall == made.read(text))
            wall.undo()
            self.assertTrue(wall == made.read("0 0 0:"))

    def test_windows_show_the_cards_of_a_wall(self):
        for seed in range(10):
            wall = filled(Wall, 1 + seed, mixed(seed, 5 * seed, 1, 9))
            start, heights, tops = [0] * wall.width, wall.heights, wall.tops
            self.assertEqual(visible(start, heights, 0, LARGE), list(range(len(wall))))
            self.assertEqual(sorted(set(sum(screens(start, heights, 4), []))), list(range(len(wall))))
            for level in range(0, 40, 3):
                later = [card for card, top in enumerate(tops) if top >= level]
                self.assertEqual(first_from(start, heights, level), min(later, default=None))
                for column, card in enumerate(cards_at(start, heights, level)):
                    self.assertIs(card is None, level >= wall.end[column])
                    self.assertTrue(card is None or wall.card_columns[card] == column)

    def test_a_picture_shows_the_cards_at_each_height(self):
        letters = "abcdefghijklmnopqrstuvwxyz"
        for seed in range(20):
            start, heights = mixed(seed, 1 + seed % 5, 0, 4), mixed(seed + 30, seed, 1, 4)
            rows = picture(start, heights)
            self.assertEqual(len(rows), greatest_bottom(start, heights))
            for level, row in enumerate(rows):
                for column, card in enumerate(cards_at(start, heights, level)):
                    empty = "#" if level < start[column] else "."
                    self.assertEqual(row[column], empty if card is None else letters[card])

    def test_values_that_are_returned_may_be_passed_back(self):
        for start, heights in small_samples(3):
            for stage in steps(start, heights):
                self.assertEqual(parse_cards(format_cards(stage, heights)), (stage, heights))
        wall = filled(Wall, 3, [5, 2, 4, 3])
        other = Wall(wall.width)
        other.add(*wall.heights)
        self.assertTrue(other == wall)


class ReadmeTest(unittest.TestCase):

    def test_the_examples_of_the_readme(self):
        failed, tried = doctest.testfile(README, module_relative=False, encoding="utf-8")
        self.assertEqual(failed, 0)
        self.assertGreater(tried, 20)


if __name__ == "__main__":
    unittest.main()
