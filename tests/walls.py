"""What the tests of the walls share: walls that are laid anew after each call, and the checks of each class."""

import inspect
import itertools

from lowcolumns.errors import (
    EmptyHistoryError, FullError, InvalidColumnsError, InvalidFormatError, InvalidHeightError, InvalidIndexError,
)
from lowcolumns.text import format_cards
from tests.support import (
    LARGE, NO_INTEGERS, WRONG_HEIGHTS, WRONG_WIDTHS, FunctionCase, mixed, plain_laying,
)

METHODS = {
    "add": "(self, *heights)", "tried": "(self, *heights)", "report": "(self)", "put_in": "(self, index, height)",
    "take_out": "(self, index)", "shift": "(self, index, place)", "stretch": "(self, index, height)",
    "resize": "(self, columns)", "undo": "(self)", "twin": "(self)",
}
PROPERTIES = ["heights", "card_columns", "tops", "end", "width"]
LISTS = ["heights", "card_columns", "tops", "end"]

# Calls that change a wall with the heights 5, 2, 4, 3, 1 in three columns, also those that leave everything the same.
CHANGES = [
    ("add", (7, 1)), ("add", (4,)), ("add", ()), ("put_in", (0, 6)), ("put_in", (5, 6)), ("put_in", (2, 1)),
    ("take_out", (0,)), ("take_out", (4,)), ("take_out", (2,)), ("shift", (0, 4)), ("shift", (4, 0)),
    ("shift", (1, 2)), ("shift", (3, 3)), ("stretch", (0, LARGE)), ("stretch", (2, 1)), ("stretch", (4, 9)),
    ("stretch", (1, 2)), ("resize", (1,)), ("resize", (2,)), ("resize", (30,)), ("resize", (3,)),
]
HEIGHTS = (5, 2, 4, 3, 1)

NAMES = {"put_in": ("index", "height"), "take_out": ("index",), "shift": ("index", "place"),
         "stretch": ("index", "height"), "resize": ("columns",)}


class PlainWall:
    """A list of heights that is laid anew whenever it is asked, with copies of all that was before."""

    def __init__(self, width, right, gap):
        self.width, self.right, self.gap = width, right, gap
        self.heights, self.past = [], []

    def places(self):
        grown = [height + self.gap for height in self.heights]
        return plain_laying([0] * self.width, grown, self.right)[0]

    def shown(self):
        """Return what the properties of a wall must be."""
        places = self.places()
        end = [0] * self.width
        for (column, top), height in zip(places, self.heights):
            end[column] = max(end[column], top + height)
        columns, tops = [column for column, _ in places], [top for _, top in places]
        return {"heights": self.heights, "card_columns": columns, "tops": tops, "end": end, "width": self.width}

    def call(self, name, *arguments):
        """Change the wall and return what the method must return."""
        if name == "undo":
            self.width, self.heights = self.past.pop()
            return None
        self.past.append((self.width, list(self.heights)))
        if name == "add":
            self.heights.extend(arguments)
            return [column for column, _ in self.places()][len(self.heights) - len(arguments):]
        if name == "resize":
            self.width = arguments[0]
        elif name == "put_in":
            self.heights.insert(*arguments)
        elif name == "stretch":
            self.heights[arguments[0]] = arguments[1]
        else:
            height = self.heights.pop(arguments[0])
            if name == "shift":
                self.heights.insert(arguments[1], height)
        return None


class Kind:
    """A class of walls with its gap, and what it does with equally low columns."""

    def __init__(self, made, right=False, gap=0, arguments=()):
        self.made, self.right, self.gap, self.arguments = made, right, gap, arguments

    def pair(self, width, heights=()):
        """Return a wall of this kind and a plain one; the heights are added in one call each."""
        wall, plain = self.made(width, *self.arguments), PlainWall(width, self.right, self.gap)
        if heights:
            wall.add(*heights)
            plain.call("add", *heights)
        return wall, plain


def chosen_call(plain, numbers):
    """Return the name and the arguments of a call that is allowed now."""
    many = len(plain.heights)
    kind, one, two, height = numbers
    height = (1, 2, 3, 9, 40, LARGE)[height % 6] if height % 4 == 0 else 1 + height % 9
    if kind % 8 == 0:
        return "resize", (1 + one % 30 if one % 2 else 1 + one % 4,)
    if kind % 8 == 1 and plain.past:
        return "undo", ()
    if kind % 8 in (2, 3) or many == 0:
        return "add", tuple(1 + (height + more) % 12 for more in range(min(one % 8, 200 - many)))
    if kind % 8 == 4 and many < 200:
        return "put_in", (one % (many + 1), height)
    if kind % 8 == 5:
        return "take_out", (one % many,)
    if kind % 8 == 6:
        return "shift", (one % many, two % many)
    return "stretch", (one % many, height)


class WallChecks(FunctionCase):
    """What the checks of each class of walls need; the tests name the kind."""

    kind = None

    def assert_shown(self, wall, plain):
        self.assertEqual({name: getattr(wall, name) for name in PROPERTIES}, plain.shown())
        self.assertEqual(len(wall), len(plain.heights))
        self.assertEqual(wall.report()[0], f"cards {len(plain.heights)}")

    def assert_undone(self, wall, plain):
        """Undo all calls, and one more."""
        while plain.past:
            self.assertIsNone(wall.undo())
            plain.call("undo")
            self.assert_shown(wall, plain)
        self.assert_no_calls(wall)

    def assert_no_calls(self, wall):
        before = {name: getattr(wall, name) for name in PROPERTIES}
        for _ in range(2):
            with self.assertRaises(EmptyHistoryError):
                wall.undo()
            self.assertEqual({name: getattr(wall, name) for name in PROPERTIES}, before)

    def assert_refused(self, error, wall, name, *arguments):
        """The call raises just this error and the wall, with what undo reverts, stays the same."""
        before, twin = {name: getattr(wall, name) for name in PROPERTIES}, wall.twin()
        with self.subTest(name=name, arguments=repr(arguments)):
            with self.assertRaises(error) as caught:
                getattr(wall, name)(*arguments)
            self.assertIs(caught.exception.__class__, error)
            self.assertEqual({name: getattr(wall, name) for name in PROPERTIES}, before)
            self.assert_same_calls(wall.twin(), twin)

    def assert_same_calls(self, one, other):
        """Undo everything in both walls; they are used up afterwards."""
        while True:
            self.assertEqual({name: getattr(one, name) for name in PROPERTIES},
                             {name: getattr(other, name) for name in PROPERTIES})
            self.assertTrue(one == other)
            try:
                one.undo()
            except EmptyHistoryError:
                self.assert_no_calls(other)
                return
            other.undo()


class MethodChecks(WallChecks):
    """Each method alone and in long sequences."""

    def test_the_class_has_what_the_interface_lists_in_its_own_body(self):
        body = vars(self.kind.made)
        self.assertEqual((self.kind.made.__module__, self.kind.made.MOST), ("lowcolumns.wall", 200))
        for name, signature in METHODS.items():
            self.assertTrue(inspect.isfunction(body[name]), name)
            self.assertEqual(str(inspect.signature(body[name])), signature)
        for name in PROPERTIES:
            self.assertIs(type(body[name]), property)
        self.assertEqual((type(body["is_height"]), type(body["read"])), (staticmethod, classmethod))
        self.assertEqual(str(inspect.signature(self.kind.made.is_height)), "(value)")
        self.assertEqual(str(inspect.signature(self.kind.made.read)), "(text)")
        self.assertTrue(inspect.isfunction(body["__eq__"]) and inspect.isfunction(body["__len__"]))

    def test_a_new_wall(self):
        for width in (1, 2, 17, 30):
            wall, plain = self.kind.pair(width)
            self.assert_shown(wall, plain)
            self.assertEqual((wall.end, wall.tops, len(wall), wall.width), ([0] * width, [], 0, width))
            self.assert_no_calls(wall)

    def test_each_method_alone_and_undone(self):
        for name, arguments in CHANGES:
            wall, plain = self.kind.pair(3, HEIGHTS)
            self.assertEqual(getattr(wall, name)(*arguments), plain.call(name, *arguments))
            self.assert_shown(wall, plain)
            self.assert_undone(wall, plain)

    def test_each_method_after_each_other_and_undone(self):
        for first, second in itertools.product(CHANGES, repeat=2):
            wall, plain = self.kind.pair(3, HEIGHTS + HEIGHTS)
            for name, arguments in (first, second):
                self.assertEqual(getattr(wall, name)(*arguments), plain.call(name, *arguments))
            self.assert_shown(wall, plain)
            self.assert_undone(wall, plain)

    def test_all_indexes_and_places(self):
        for width in (1, 2, 4):
            for name, bounds in (("put_in", (6,)), ("take_out", (5,)), ("shift", (5, 5)), ("stretch", (5,))):
                for indexes in itertools.product(*map(range, bounds)):
                    for height in ((1, 3, LARGE) if name in ("put_in", "stretch") else (None,)):
                        arguments = indexes if height is None else (*indexes, height)
                        wall, plain = self.kind.pair(width, HEIGHTS)
                        self.assertIsNone(getattr(wall, name)(*arguments))
                        plain.call(name, *arguments)
                        self.assert_shown(wall, plain)

    def test_cards_of_all_kinds_of_heights(self):
        for seed, most in enumerate((1, 2, 9, 100, LARGE)):
            for width in (1, 2, 5, 30):
                wall, plain = self.kind.pair(width)
                heights = mixed(seed + width, 200, 1, most)
                for at in range(0, 200, 20):
                    part = heights[at:at + 20]
                    self.assertEqual(wall.tried(*part), wall.add(*part))
                    plain.call("add", *part)
                    self.assert_shown(wall, plain)

    def test_long_sequences(self):
        for seed in range(6):
            wall, plain = self.kind.pair(1 + seed)
            for step in range(200):
                name, arguments = chosen_call(plain, mixed(seed * 1000 + step, 4, 0, 10 ** 6))
                self.assertEqual(getattr(wall, name)(*arguments), plain.call(name, *arguments), (name, arguments))
                self.assert_shown(wall, plain)
            self.assertLessEqual(len(plain.past), 200)
            while len(plain.past) > 100:
                plain.past.pop(0)
            for _ in range(len(plain.past)):
                wall.undo()
                plain.call("undo")
                self.assert_shown(wall, plain)

    def test_300_calls_and_all_of_them_undone(self):
        wall, plain = self.kind.pair(4)
        for step in range(150):
            name, arguments = chosen_call(plain, mixed(step + 7, 4, 0, 10 ** 6))
            if name != "undo":
                self.assertEqual(getattr(wall, name)(*arguments), plain.call(name, *arguments))
                self.assert_shown(wall, plain)
        self.assert_undone(wall, plain)

    def test_calls_after_an_undo(self):
        wall, plain = self.kind.pair(2, HEIGHTS)
        for name, arguments in (
            ("add", (6,)), ("undo", ()), ("put_in", (0, 8)), ("resize", (3,)), ("undo", ()), ("undo", ()),
            ("stretch", (1, 7)), ("add", ()), ("undo", ()), ("take_out", (0,)), ("shift", (0, 3)), ("undo", ()),
        ):
            self.assertEqual(getattr(wall, name)(*arguments), plain.call(name, *arguments))
            self.assert_shown(wall, plain)
        self.assert_undone(wall, plain)

    def test_calls_that_leave_everything_the_same_are_undone_one_by_one(self):
        wall, plain = self.kind.pair(3, HEIGHTS)
        self.assertEqual(wall.add(), [])
        wall.shift(2, 2)
        wall.stretch(0, 5)
        wall.resize(3)
        plain.past += [(3, list(HEIGHTS))] * 4
        for _ in range(4):
            wall.undo()
            self.assertEqual(wall.heights, list(HEIGHTS))
        wall.undo()
        self.assertEqual((wall.heights, wall.width), ([], 3))
        self.assert_no_calls(wall)

    def test_add_without_heights_on_a_new_wall(self):
        wall, _ = self.kind.pair(2)
        self.assertEqual((wall.add(), wall.tried()), ([], []))
        wall.undo()
        self.assert_no_calls(wall)

    def test_resize_lays_all_cards_anew(self):
        wall, plain = self.kind.pair(1, HEIGHTS)
        for width in (2, 30, 3, 1, 5):
            wall.resize(width)
            plain.call("resize", width)
            self.assert_shown(wall, plain)
            self.assertEqual(len(wall.end), width)
        self.assert_undone(wall, plain)

    def test_tried_tells_what_add_would_return_and_is_no_call(self):
        for heights in ((), (1,), (4, 4, 4), tuple(mixed(3, 20, 1, 9)), (LARGE, 1, LARGE)):
            wall, plain = self.kind.pair(3, HEIGHTS)
            for _ in range(3):
                expected = wall.twin().add(*heights)
                self.assertEqual(wall.tried(*heights), expected)
                self.assert_shown(wall, plain)
            self.assertEqual(wall.add(*heights), plain.call("add", *heights))
            self.assertEqual(wall.card_columns[5:], expected)
            self.assert_undone(wall, plain)

    def test_tried_as_often_as_wanted(self):
        wall, _ = self.kind.pair(2)
        for _ in range(400):
            self.assertEqual(len(wall.tried(3, 1)), 2)
        self.assert_no_calls(wall)


class WrongCallChecks(WallChecks):
    """Errors of the methods, and that they change nothing."""

    def test_wrong_numbers_of_columns(self):
        for value in WRONG_WIDTHS:
            with self.assertRaises(InvalidColumnsError):
                self.kind.made(value, *self.kind.arguments)
        wall, _ = self.kind.pair(3, HEIGHTS)
        for value in WRONG_WIDTHS:
            self.assert_refused(InvalidColumnsError, wall, "resize", value)
        for value in (1, 30):
            wall.resize(value)
            self.assertEqual((wall.width, self.kind.pair(value)[0].width), (value, value))

    def test_wrong_heights_to_add(self):
        wall, _ = self.kind.pair(3, HEIGHTS)
        for name in ("add", "tried"):
            for value in WRONG_HEIGHTS + [[1, 2]]:
                for heights in ((value,), (value, 1), (1, value, 2), (2, 1, value), (value, value)):
                    self.assert_refused(InvalidHeightError, wall, name, *heights)

    def test_wrong_arguments_in_the_documented_order(self):
        wrong_cards = NO_INTEGERS + [-1, 5, 6, LARGE, -LARGE]
        wrong_places = NO_INTEGERS + [-1, 6, LARGE, -LARGE]
        heights, indexes = (InvalidHeightError, WRONG_HEIGHTS), (InvalidIndexError, wrong_cards)
        wall, _ = self.kind.pair(3, HEIGHTS)
        for name, good, wrong in (
            ("put_in", (5, 3), ((InvalidIndexError, wrong_places), heights)),
            ("stretch", (4, 3), (indexes, heights)),
            ("shift", (4, 0), (indexes, indexes)),
            ("take_out", (4,), (indexes,)),
        ):
            for at, (error, values) in enumerate(wrong):
                for number, value in enumerate(values):
                    arguments = (*good[:at], value, *good[at + 1:])
                    self.assert_refused(error, wall, name, *arguments)
                    if at + 1 < len(wrong):
                        later = wrong[at + 1][1]
                        self.assert_refused(error, wall, name, value, later[number % len(later)])
            getattr(wall.twin(), name)(*good)

    def test_a_wall_without_cards_has_no_indexes(self):
        wall, _ = self.kind.pair(3)
        for index in (-1, 0, 1):
            self.assert_refused(InvalidIndexError, wall, "take_out", index)
            self.assert_refused(InvalidIndexError, wall, "shift", index, 0)
            self.assert_refused(InvalidIndexError, wall, "stretch", index, 0)
        for index in (-1, 1):
            self.assert_refused(InvalidIndexError, wall, "put_in", index, 0)
        wall.put_in(0, 4)
        self.assertEqual((wall.heights, wall.end), ([4], wall.twin().end))

    def full(self, many=200):
        wall, _ = self.kind.pair(3)
        for at in range(0, many, 20):
            wall.add(*[1 + (at + more) % 5 for more in range(min(20, many - at))])
        self.assertEqual(len(wall), many)
        return wall

    def test_a_full_wall(self):
        wall = self.full()
        for heights in ((1,), (LARGE,), (1, 2, 3), tuple(range(1, 21))):
            for name in ("add", "tried"):
                self.assert_refused(FullError, wall, name, *heights)
        for index in (0, 1, 100, 199, 200):
            self.assert_refused(FullError, wall, "put_in", index, 1)
        self.assertEqual((wall.add(), wall.tried()), ([], []))
        wall.shift(199, 0)
        wall.stretch(199, 8)
        wall.resize(30)
        wall.take_out(199)
        wall.put_in(199, 6)
        self.assertEqual((len(wall), wall.heights[199]), (200, 6))
        wall.undo()
        self.assertEqual(len(wall), 199)
        wall.add(7)
        self.assert_refused(FullError, wall, "add", 7)

    def test_errors_of_the_parameters_come_before_a_full_wall(self):
        for wall in (self.full(), self.full(199)):
            for value in WRONG_HEIGHTS:
                for name in ("add", "tried"):
                    self.assert_wrong(InvalidHeightError, wall, name, value)
                    self.assert_wrong(InvalidHeightError, wall, name, 1, 2, value)
                self.assert_wrong(InvalidHeightError, wall, "put_in", 199, value)
            for value in NO_INTEGERS + [-1, 201, LARGE]:
                for height in (1, 0, None):
                    self.assert_wrong(InvalidIndexError, wall, "put_in", value, height)

    def assert_wrong(self, error, wall, name, *arguments):
        with self.subTest(name=name, arguments=repr(arguments)):
            with self.assertRaises(error):
                getattr(wall, name)(*arguments)
        self.assertIn(len(wall), (199, 200))

    def test_some_cards_too_many(self):
        wall = self.full(190)
        for name in ("add", "tried"):
            self.assert_refused(FullError, wall, name, *range(1, 12))
        self.assertEqual(len(wall.tried(*range(1, 11))), 10)
        wall.add(*range(1, 11))
        self.assertEqual(len(wall), 200)
        wall.undo()
        wall.put_in(190, 1)
        self.assert_refused(FullError, wall, "add", *range(1, 11))
        self.assertEqual(len(wall.add(*range(1, 10))), 9)

    def test_a_call_that_raises_is_not_undone(self):
        wall, plain = self.kind.pair(3, HEIGHTS)
        for name, arguments in (
            ("add", (1, 0)), ("put_in", (6, 1)), ("put_in", (0, 0)), ("take_out", (5,)), ("shift", (0, 5)),
            ("stretch", (0, LARGE + 1)), ("resize", (31,)), ("tried", (None,)),
        ):
            with self.assertRaises(ValueError):
                getattr(wall, name)(*arguments)
        self.assert_shown(wall, plain)
        self.assert_undone(wall, plain)

    def test_is_height_takes_any_value(self):
        for value in (1, 2, LARGE - 1, LARGE):
            self.assertIs(self.kind.made.is_height(value), True)
            self.assertIs(self.kind.made.is_height(value=value), True)
        wall, _ = self.kind.pair(2)
        for value in WRONG_HEIGHTS:
            self.assertIs(self.kind.made.is_height(value), False)
            self.assertIs(wall.is_height(value), False)


class WallValueChecks(WallChecks):
    """Kinds of results, copies, twins, equality and reading."""

    def test_by_name_as_by_position(self):
        self.assertEqual(self.kind.made(3, *self.kind.arguments), self.kind.made(**dict(
            zip(("columns", "gap"), (3, *self.kind.arguments)))))
        for name, arguments in CHANGES:
            if name in NAMES:
                wall, _ = self.kind.pair(3, HEIGHTS)
                other = wall.twin()
                named = dict(zip(NAMES[name], arguments))
                self.assertIsNone(getattr(wall, name)(*arguments))
                self.assertIsNone(getattr(other, name)(**dict(reversed(named.items()))))
                self.assert_same_calls(wall, other)
        self.assertEqual(self.kind.made.read(text="0 0: 3 1"), self.kind.made.read("0 0: 3 1"))

    def test_kinds_of_results(self):
        wall, _ = self.kind.pair(3, HEIGHTS)
        for made in [getattr(wall, name) for name in LISTS] + [wall.tried(1, 2), wall.add(1, 2)]:
            self.assertEqual([type(made)] + [type(number) for number in made], [list] + [int] * len(made))
        told = wall.report()
        self.assertEqual([type(told)] + [type(line) for line in told], [list] + [str] * len(told))
        self.assertEqual((type(wall.width), type(len(wall)), type(wall.twin())), (int, int, self.kind.made))
        self.assertIs(type(self.kind.made.read("0:")), self.kind.made)

    def test_returned_lists_are_new(self):
        wall, plain = self.kind.pair(3, HEIGHTS)
        wall.stretch(0, 6)
        plain.call("stretch", 0, 6)
        for made in [getattr(wall, name) for name in LISTS] + [wall.tried(1, 2), wall.add(), wall.report()]:
            made.append(9)
            made.reverse()
            made.append(8)
        plain.call("add")
        self.assert_shown(wall, plain)
        added = wall.add(2, 2)
        plain.call("add", 2, 2)
        added[:] = [7, 7, 7]
        self.assert_undone(wall, plain)

    def test_properties_are_up_to_date_and_older_ones_stay(self):
        wall, plain = self.kind.pair(2, HEIGHTS)
        before = {name: getattr(wall, name) for name in PROPERTIES}
        expected = plain.shown()
        expected["heights"] = list(HEIGHTS)
        for name, arguments in CHANGES[:8]:
            getattr(wall, name)(*arguments)
        wall.undo()
        self.assertEqual(before, expected)

    def test_properties_are_not_assigned(self):
        wall, plain = self.kind.pair(2, HEIGHTS)
        for name in PROPERTIES:
            with self.assertRaises(AttributeError):
                setattr(wall, name, [])
        self.assert_shown(wall, plain)

    def test_a_twin_is_equal_and_independent(self):
        wall, plain = self.kind.pair(2, HEIGHTS)
        for name, arguments in CHANGES[:7]:
            getattr(wall, name)(*arguments)
            plain.call(name, *arguments)
        for one, other in ((wall.twin(), wall.twin()), (wall.twin().twin(), wall.twin())):
            self.assertIs(type(one), self.kind.made)
            self.assertTrue(one == wall and one is not wall)
            self.assertEqual(one.report(), wall.report())
            one.undo()
            one.undo()
            one.add(9, 9)
            one.resize(4)
            self.assert_shown(other, plain)
            self.assert_shown(wall, plain)
        left, right = wall.twin(), wall.twin()
        wall.add(3)
        plain.call("add", 3)
        wall.undo()
        plain.call("undo")
        self.assert_same_calls(left, right)
        self.assert_undone(wall, plain)

    def test_a_twin_lays_later_cards_as_its_wall(self):
        wall, plain = self.kind.pair(4, HEIGHTS)
        other = wall.twin()
        for name, arguments in CHANGES:
            if name != "take_out":
                self.assertEqual(getattr(other, name)(*arguments), plain.call(name, *arguments))
                self.assert_shown(other, plain)
        self.assertEqual(wall.heights, list(HEIGHTS))
        self.assert_undone(other, plain)

    def test_a_twin_of_a_new_wall_has_no_calls(self):
        wall, plain = self.kind.pair(2)
        self.assert_shown(wall.twin(), plain)
        self.assert_no_calls(wall.twin())

    def test_walls_are_equal_by_width_and_heights(self):
        wall, _ = self.kind.pair(3, HEIGHTS)
        other, _ = self.kind.pair(3)
        self.assertFalse(wall == other)
        for height in HEIGHTS:
            self.assertTrue(wall != other)
            other.add(height)
        self.assertTrue(wall == other and other == wall)
        self.assertFalse(wall != other)
        self.assertTrue(wall == wall)
        for name, arguments in CHANGES:
            changed = wall.twin()
            getattr(changed, name)(*arguments)
            same = (changed.heights, changed.width) == (wall.heights, wall.width)
            self.assertIs(changed == wall, same)
            self.assertIs(wall != changed, not same)
            changed.undo()
            self.assertTrue(changed == wall)
        self.assertFalse(self.kind.pair(2)[0] == self.kind.pair(3)[0])
        self.assertTrue(self.kind.pair(30)[0] == self.kind.pair(30)[0])

    def test_walls_with_the_same_tops_and_other_heights_are_not_equal(self):
        one, two = self.kind.pair(2, (3, 1))[0], self.kind.pair(2, (3, 2))[0]
        self.assertEqual(one.tops, two.tops)
        self.assertFalse(one == two)

    def test_a_wall_is_not_equal_to_any_other_value(self):
        wall, _ = self.kind.pair(3, HEIGHTS)
        plain = PlainWall(3, self.kind.right, self.kind.gap)
        for value in (
            None, 0, 5, True, "0 0 0: 5 2 4 3 1", list(HEIGHTS), (3, HEIGHTS), {}, self.kind.made, object(), len, plain,
            3.0, b"", Anything(),
        ):
            self.assertIs(wall == value, False)
            self.assertIs(wall != value, True)

    def test_read(self):
        for width, heights in ((1, []), (3, list(HEIGHTS)), (30, [LARGE] * 200), (2, [1]), (30, [])):
            wall = self.kind.made.read(format_cards([0] * width, heights))
            plain = PlainWall(width, self.kind.right, self.kind.gap)
            plain.heights = heights
            self.assertIs(type(wall), self.kind.made)
            self.assert_shown(wall, plain)
            self.assert_no_calls(wall)
        other = self.kind.pair(2)[0].read("0: 4")
        self.assertEqual((type(other), other.width, other.heights), (self.kind.made, 1, [4]))

    def test_a_read_wall_goes_on_as_others(self):
        wall, plain = self.kind.made.read("0 0 0: 5 2 4 3 1"), PlainWall(3, self.kind.right, self.kind.gap)
        plain.heights = list(HEIGHTS)
        for name, arguments in CHANGES:
            if name != "take_out":
                self.assertEqual(getattr(wall, name)(*arguments), plain.call(name, *arguments))
                self.assert_shown(wall, plain)
        self.assert_undone(wall, plain)
        self.assertEqual(wall, self.kind.made.read("0 0 0: 5 2 4 3 1"))

    def test_strings_that_are_not_read(self):
        for text in (
            "", "0", ":", "0: 0", "00: 5", "0 0 0:5", "0:  5", "0: 5 ", "0:\n", "1:", "0 1: 5", "1 0 0: 5 2",
            "0 0 5:", f"{LARGE}:", f"0 {LARGE + 1}: 1", "0 " * 30 + "0:", "0:" + " 1" * 201, "0: -1", "0: +5",
            None, 0, [], b"0:", ["0:"], True, ([0], [5]),
        ):
            with self.subTest(text=repr(text)):
                with self.assertRaises(InvalidFormatError) as caught:
                    self.kind.made.read(text)
                self.assertIs(caught.exception.__class__, InvalidFormatError)


class Anything:
    """A value that says of itself that it is equal to everything."""

    def __eq__(self, other):
        return True

    def __ne__(self, other):
        return False
