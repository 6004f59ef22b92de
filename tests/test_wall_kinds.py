"""Point 19: the same for RightWall, GapWall and GapRightWall of lowcolumns/wall.py."""

import inspect
import itertools
import unittest

from lowcolumns.errors import InvalidColumnsError, InvalidNumberError
from lowcolumns.layouts import layout
from lowcolumns.wall import GapRightWall, GapWall, RightWall, Wall
from tests.support import LARGE, WRONG_NUMBERS, WRONG_WIDTHS, FunctionCase, mixed
from tests.walls import CHANGES, HEIGHTS, Kind, MethodChecks, WallValueChecks, WrongCallChecks

GAPS = (0, 1, 5, LARGE)
GAP_WALLS = [Kind(GapWall, gap=gap, arguments=(gap,)) for gap in GAPS]
GAP_RIGHT_WALLS = [Kind(GapRightWall, right=True, gap=gap, arguments=(gap,)) for gap in GAPS]
GAP_KINDS = GAP_WALLS + GAP_RIGHT_WALLS
ALL = [Kind(Wall), Kind(RightWall, right=True)] + GAP_KINDS


class RightWallTest(MethodChecks, WrongCallChecks, WallValueChecks):
    kind = Kind(RightWall, right=True)


class GapWallTest(MethodChecks, WrongCallChecks, WallValueChecks):
    kind = Kind(GapWall, gap=1)


class GapRightWallTest(MethodChecks, WrongCallChecks, WallValueChecks):
    kind = Kind(GapRightWall, right=True, gap=1)


class GapWall0Test(MethodChecks, WrongCallChecks):
    kind = GAP_WALLS[0]


class GapWall5Test(MethodChecks):
    kind = GAP_WALLS[2]


class GapWallGreatestTest(MethodChecks):
    kind = GAP_WALLS[3]


class GapRightWall0Test(MethodChecks):
    kind = GAP_RIGHT_WALLS[0]


class GapRightWall5Test(MethodChecks):
    kind = GAP_RIGHT_WALLS[2]


class GapRightWallGreatestTest(MethodChecks, WrongCallChecks):
    kind = GAP_RIGHT_WALLS[3]


class KindsOfWallsTest(FunctionCase):

    def test_classes(self):
        self.assertEqual((RightWall.__bases__, GapWall.__bases__), ((Wall,), (Wall,)))
        self.assertEqual(set(GapRightWall.__bases__), {GapWall, RightWall})
        self.assertEqual([str(inspect.signature(made)) for made in (RightWall, GapWall, GapRightWall)],
                         ["(columns)", "(columns, gap=1)", "(columns, gap=1)"])
        for made in (GapWall, GapRightWall):
            self.assertIs(type(vars(made)["gap"]), property)
            self.assertEqual(made.__module__, "lowcolumns.wall")
        self.assertFalse(hasattr(RightWall(3), "gap"))

    def test_of_equally_low_columns_the_right_one(self):
        wall = RightWall(3)
        self.assertEqual(wall.add(5, 2, 4, 3, 1, 2), [2, 1, 0, 1, 0, 2])
        self.assertEqual((wall.tops, wall.end), ([0, 0, 0, 2, 4, 5], [5, 5, 7]))
        self.assertEqual(RightWall(30).add(1, 1), [29, 28])

    def test_a_right_wall_shows_the_layout_to_the_right(self):
        for seed in range(20):
            heights = mixed(seed, 20, 1, 1 + seed)
            wall = RightWall(1 + seed)
            wall.add(*heights)
            places = layout([0] * (1 + seed), heights, right=True)
            self.assertEqual(list(zip(wall.card_columns, wall.tops)), places)

    def test_a_gap_below_each_card(self):
        wall = GapWall(2)
        self.assertEqual(wall.add(3, 3, 1), [0, 1, 0])
        self.assertEqual((wall.tops, wall.end, wall.gap), ([0, 0, 4], [5, 3], 1))
        wall = GapWall(1, 10)
        wall.add(1, 2, 3)
        self.assertEqual((wall.tops, wall.end, wall.gap), ([0, 11, 23], [26], 10))

    def test_the_gap_can_change_the_column(self):
        # Without a gap the column with two cards is as low as the other one.
        self.assertEqual(GapWall(2, 0).add(4, 2, 2, 1), [0, 1, 1, 0])
        self.assertEqual(GapWall(2, 1).add(4, 2, 2, 1), [0, 1, 1, 0])
        self.assertEqual(GapRightWall(2, 0).add(4, 2, 2, 1), [1, 0, 0, 1])
        self.assertEqual(GapWall(2, 2).add(5, 1, 1, 1), [0, 1, 1, 1])
        self.assertEqual(GapWall(2, 2).add(4, 1, 1, 1), [0, 1, 1, 0])

    def test_gaps_0_1_and_the_greatest(self):
        for made in (GapWall, GapRightWall):
            wall = made(2, 0)
            wall.add(3, 1, 1)
            self.assertEqual((wall.tops, sorted(wall.end), wall.gap), ([0, 0, 1], [2, 3], 0))
            wall = made(2, LARGE)
            wall.add(3, 1, 1)
            self.assertEqual((wall.tops, sorted(wall.end)), ([0, 0, LARGE + 1], [3, LARGE + 2]))
            self.assertEqual(wall.gap, LARGE)
            wall = made(1, LARGE)
            wall.add(LARGE, LARGE, LARGE)
            self.assertEqual((wall.tops, wall.end), ([0, 2 * LARGE, 4 * LARGE], [5 * LARGE]))
            self.assertEqual([made(3).gap, made(3, gap=4).gap, made(columns=3, gap=5).gap], [1, 4, 5])

    def test_the_end_of_a_column_without_cards_is_0(self):
        for gap in (0, 1, 7, LARGE):
            self.assertEqual(GapWall(3, gap).end, [0, 0, 0])
            wall = GapWall(3, gap)
            wall.add(4)
            self.assertEqual(wall.end, [4, 0, 0])
            wall = GapRightWall(3, gap)
            wall.add(4)
            self.assertEqual(wall.end, [0, 0, 4])

    def test_reports(self):
        for kind in ALL:
            for many in (0, 1, 5):
                wall, _ = kind.pair(2, HEIGHTS[:many])
                expected = [f"cards {many}"]
                if kind.right:
                    expected.append("ties right")
                if kind.arguments:
                    expected.append(f"gap {kind.gap}")
                self.assertEqual(wall.report(), expected)
        self.assertEqual(GapWall(1).report(), ["cards 0", "gap 1"])
        self.assertEqual(GapRightWall(1, 0).report(), ["cards 0", "ties right", "gap 0"])
        self.assertEqual(GapWall(1, LARGE).report(), ["cards 0", "gap 1" + "0" * 30])
        self.assertEqual(RightWall(1).report(), ["cards 0", "ties right"])

    def test_wrong_gaps(self):
        for made in (GapWall, GapRightWall):
            for gap in WRONG_NUMBERS:
                with self.assertRaises(InvalidNumberError):
                    made(3, gap)
                with self.assertRaises(InvalidNumberError):
                    made(columns=30, gap=gap)
            for columns in WRONG_WIDTHS:
                for gap in [0, LARGE] + WRONG_NUMBERS:
                    with self.assertRaises(InvalidColumnsError):
                        made(columns, gap)
            for gap in (0, 1, LARGE):
                self.assertEqual(made(1, gap).gap, gap)

    def test_a_twin_has_the_gap_and_the_calls(self):
        for kind in GAP_KINDS:
            wall, plain = kind.pair(3, HEIGHTS)
            for name, arguments in CHANGES[:6]:
                getattr(wall, name)(*arguments)
                plain.call(name, *arguments)
            other = wall.twin().twin()
            self.assertEqual((type(other), other.gap, other.report()), (kind.made, kind.gap, wall.report()))
            self.assertTrue(other == wall)
            while plain.past:
                other.undo()
                plain.call("undo")
                self.assertEqual({name: getattr(other, name) for name in plain.shown()}, plain.shown())
                self.assertEqual(other.gap, kind.gap)
            self.assertFalse(other == wall)
            self.assertEqual(other.add(6, 6, 6, 1), plain.call("add", 6, 6, 6, 1))

    def test_undo_keeps_the_gap(self):
        for kind in GAP_KINDS:
            wall, _ = kind.pair(3, HEIGHTS)
            wall.resize(2)
            wall.undo()
            self.assertEqual((wall.gap, wall.heights, wall.width), (kind.gap, list(HEIGHTS), 3))

    def test_walls_of_different_kinds_are_not_equal(self):
        for heights in ((), (3,), HEIGHTS):
            for one, two in itertools.product(range(len(ALL)), repeat=2):
                left, right = ALL[one].pair(3, heights)[0], ALL[two].pair(3, heights)[0]
                self.assertIs(left == right, one == two, (ALL[one].made, ALL[two].made))
                self.assertIs(left != right, one != two)
            for kind in ALL:
                wall, _ = kind.pair(3, heights)
                self.assertFalse(wall == kind.pair(2, heights)[0])
                self.assertFalse(wall == kind.pair(3, heights + (1,))[0])
        self.assertTrue(GapWall(3) == GapWall(3, 1))
        self.assertTrue(GapRightWall(3, 1) == GapRightWall(3))

    def test_a_class_below_is_another_class(self):
        class Other(GapWall):
            pass

        one, two = Other(2, 3), Other(2, 3)
        self.assertTrue(one == two)
        self.assertFalse(one == GapWall(2, 3) or GapWall(2, 3) == one)
        self.assertEqual((type(one.twin()), one.twin().gap, type(Other.read("0:"))), (Other, 3, Other))

    def test_read_uses_the_default_gap(self):
        for made in (GapWall, GapRightWall):
            for wall in (made.read("0 0: 3 3 1"), made(4, 9).read("0 0: 3 3 1")):
                self.assertEqual((type(wall), wall.gap, wall.tops), (made, 1, [0, 0, 4]))
                self.assertTrue(wall == made(2).twin() or len(wall) == 3)
                expected = made(2)
                expected.add(3, 3, 1)
                self.assertTrue(wall == expected)
        self.assertEqual(RightWall.read("0 0: 3 3 1").card_columns, [1, 0, 1])
        self.assertEqual(GapWall.read("0 0: 3 3 1").card_columns, [0, 1, 0])


del MethodChecks, WrongCallChecks, WallValueChecks

if __name__ == "__main__":
    unittest.main()
