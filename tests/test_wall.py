"""Points 17 and 18, with points 3 to 8 as far as they concern the class Wall of lowcolumns/wall.py."""

import inspect
import unittest

from lowcolumns.errors import EmptyHistoryError, FullError
from lowcolumns.layouts import end_of, tops_of
from lowcolumns.wall import Wall
from tests.support import H, Z, FunctionCase
from tests.walls import Kind, MethodChecks, WallValueChecks, WrongCallChecks

EXAMPLE = """
>>> from lowcolumns.wall import GapRightWall, Wall
>>> wall = Wall(3)
>>> [wall.add(5, 2, 4, 3), wall.tried(1, 2), wall.tops, wall.end]
[[0, 1, 2, 1], [2, 0], [0, 0, 0, 2], [5, 5, 4]]
>>> wall.resize(2)
>>> [wall.card_columns, wall.tops, wall.report()]
[[0, 1, 1, 0], [0, 0, 2, 5], ['cards 4']]
>>> other = GapRightWall(2)
>>> [other.add(3, 3, 1), other.tops, other.end, other.report()]
[[1, 0, 1], [0, 0, 4], [3, 5], ['cards 3', 'ties right', 'gap 1']]
"""


class WallAsByHandTest(MethodChecks, WrongCallChecks, WallValueChecks):
    kind = Kind(Wall)


class WallTest(FunctionCase):

    def test_example_of_the_document(self):
        self.assert_example(EXAMPLE)

    def test_interface(self):
        self.assertEqual(str(inspect.signature(Wall)), "(columns)")
        self.assertFalse(hasattr(Wall(3), "gap"))

    def test_a_wall_shows_the_layout_of_its_cards(self):
        wall = Wall(3)
        self.assertEqual(wall.add(*H), [0, 1, 2, 1, 2, 0])
        self.assertEqual((wall.heights, wall.tops, wall.end), (H, tops_of(Z, H), end_of(Z, H)))
        self.assertEqual((wall.width, len(wall), wall.report()), (3, 6, ["cards 6"]))

    def test_methods_as_by_hand(self):
        wall = Wall(2)
        self.assertEqual(wall.add(4, 1), [0, 1])
        self.assertEqual(wall.add(2, 2), [1, 1])
        wall.put_in(1, 3)
        self.assertEqual((wall.heights, wall.tops, wall.end), ([4, 3, 1, 2, 2], [0, 0, 3, 4, 4], [6, 6]))
        wall.take_out(0)
        self.assertEqual((wall.heights, wall.card_columns), ([3, 1, 2, 2], [0, 1, 1, 0]))
        wall.shift(0, 3)
        self.assertEqual((wall.heights, wall.card_columns), ([1, 2, 2, 3], [0, 1, 0, 1]))
        wall.stretch(1, 1)
        self.assertEqual((wall.heights, wall.tops), ([1, 1, 2, 3], [0, 0, 1, 1]))
        wall.resize(1)
        self.assertEqual((wall.tops, wall.end, wall.width), ([0, 1, 2, 4], [7], 1))
        for width, heights in ((2, [1, 1, 2, 3]), (2, [1, 2, 2, 3]), (2, [3, 1, 2, 2]), (2, [4, 3, 1, 2, 2]),
                               (2, [4, 1, 2, 2]), (2, [4, 1]), (2, [])):
            wall.undo()
            self.assertEqual((wall.width, wall.heights), (width, heights))
        with self.assertRaises(EmptyHistoryError):
            wall.undo()

    def test_the_greatest_number_of_cards(self):
        self.assertEqual((Wall.MOST, Wall(1).MOST), (200, 200))
        wall = Wall(30)
        for _ in range(10):
            wall.add(*range(1, 21))
        self.assertEqual(wall.report(), ["cards 200"])
        with self.assertRaises(FullError):
            wall.add(1)

    def test_the_heights_are_copied(self):
        heights = [3, 1, 2]
        wall = Wall(2)
        wall.add(*heights)
        heights.append(9)
        self.assertEqual(wall.heights, [3, 1, 2])


del MethodChecks, WrongCallChecks, WallValueChecks

if __name__ == "__main__":
    unittest.main()
