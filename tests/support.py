"""What the tests share: a plain laying of the cards, samples, wrong values and common checks."""

import copy
import doctest
import inspect
import itertools
import unittest

from lowcolumns.errors import (
    InvalidCardsError,
    InvalidColumnError,
    InvalidColumnsError,
    InvalidFlagError,
    InvalidHeightError,
    InvalidIndexError,
    InvalidNumberError,
    InvalidStartError,
    InvalidTopsError,
)

Z, H = [0, 0, 0], [5, 2, 4, 3, 1, 2]
LARGE = 10 ** 30


class Row(list):
    """A list that is not exactly a list."""


OTHER_KINDS = [None, True, False, "", "0 0", b"00", 0.0, 1.0, float("nan"), 1j, {}, {0: 1}, set(), object(), int, len]
NO_LISTS = OTHER_KINDS + [0, 1, (), (1, 2), Row([1, 2]), range(2), iter([1, 2]), frozenset([1])]
NO_INTEGERS = OTHER_KINDS + [[], [0], [1], (), (0,), (1,)]


def lists_with(good, wrong_items):
    """Return lists of good items in which a wrong one stands first, in the middle or last."""
    lists = []
    for item in wrong_items:
        lists += [[item], [item, good, good], [good, item, good], [good, good, item]]
    return lists


WRONG_STARTS = NO_LISTS + [[], [0] * 31, [1] * 40] + lists_with(1, NO_INTEGERS + [-1, LARGE + 1, -LARGE])
WRONG_CARDS = NO_LISTS + [[1] * 201, [LARGE] * 250] + lists_with(1, NO_INTEGERS + [0, -1, LARGE + 1, -LARGE])
WRONG_HEIGHTS = NO_INTEGERS + [0, -1, LARGE + 1, -LARGE]
WRONG_FLAGS = [value for value in NO_INTEGERS if not isinstance(value, bool)] + [0, 1, -1]

WRONG_NUMBERS = NO_INTEGERS + [-1, LARGE + 1, -LARGE, 10 ** 31]
WRONG_WIDTHS = NO_INTEGERS + [0, -1, 31, 40, LARGE, -LARGE]
WRONG_TOPS = NO_LISTS + [[0] * 201, [5] * 250] + lists_with(0, NO_INTEGERS + [-1, LARGE, LARGE + 1, -LARGE])

WRONG = {
    "start": (InvalidStartError, WRONG_STARTS),
    "other": (InvalidStartError, WRONG_STARTS),
    "heights": (InvalidCardsError, WRONG_CARDS),
    "height": (InvalidHeightError, WRONG_HEIGHTS),
    "right": (InvalidFlagError, WRONG_FLAGS),
    "extra": (InvalidNumberError, WRONG_NUMBERS),
    "limit": (InvalidNumberError, WRONG_NUMBERS),
    "level": (InvalidNumberError, WRONG_NUMBERS),
    "count": (InvalidNumberError, WRONG_NUMBERS),
    "low": (InvalidNumberError, WRONG_NUMBERS),
    "high": (InvalidNumberError, WRONG_NUMBERS + [0]),
    "columns": (InvalidColumnsError, WRONG_WIDTHS),
    "tops": (InvalidTopsError, WRONG_TOPS),
    "gap": (InvalidNumberError, WRONG_NUMBERS),
}


def wrong_indexes(many, error=InvalidIndexError):
    """Return the error and the wrong values for an integer from 0 to less than many."""
    return error, NO_INTEGERS + [-1, -many, many, many + 1, LARGE, -LARGE]


def wrong_columns(many):
    return wrong_indexes(many, InvalidColumnError)


def plain_laying(start, heights, right=False):
    """Return the list of the tuples (column, top) and the list of the heights before and after each card."""
    columns = list(start)
    places, stages = [], [list(columns)]
    for height in heights:
        best = 0
        for column in range(1, len(columns)):
            lower = columns[column] < columns[best]
            if lower or (right and columns[column] == columns[best]):
                best = column
        places.append((best, columns[best]))
        columns[best] += height
        stages.append(list(columns))
    return places, stages


def plain_tops(start, heights):
    return [top for _, top in plain_laying(start, heights)[0]]


def small_samples(cards=4):
    """Yield all starts of one to three columns up to 2 with all cards up to 3."""
    for width in (1, 2, 3):
        for start in itertools.product(range(3), repeat=width):
            for many in range(cards + 1):
                for heights in itertools.product((1, 2, 3), repeat=many):
                    yield list(start), list(heights)


def mixed(seed, many, least, most):
    """Return as many integers from least to most, always the same ones for a seed."""
    numbers = []
    for _ in range(many):
        seed = (seed * 6364136223846793005 + 1442695040888963407) % 2 ** 128
        numbers.append(least + (seed >> 20) % (most - least + 1))
    return numbers


def wide_samples():
    """Yield starts and cards of all sizes up to the limits."""
    sizes = [(1, 200), (2, 40), (3, 7), (5, 60), (12, 100), (30, 200), (30, 29), (30, 0), (1, 0), (4, 199)]
    for seed, (width, many) in enumerate(sizes):
        for most in (1, 4, 30, LARGE):
            yield mixed(seed, width, 0, most), mixed(seed + 100, many, 1, most)
    yield [LARGE] * 30, [LARGE] * 200
    yield [0] * 30, [1] * 200
    yield [0, LARGE], [1] * 50 + [LARGE] * 50


def answer(function, *arguments, **named):
    """Call the function, and take all results if it yields them."""
    result = function(*arguments, **named)
    return list(result) if hasattr(result, "__next__") else result


class FunctionCase(unittest.TestCase):
    """Checks that hold for each function of the interface."""

    def assert_example(self, text):
        """Run an example of the document word for word."""
        test = doctest.DocTestParser().get_doctest(text, {}, self.id(), None, 0)
        self.assertTrue(test.examples)
        told = []
        results = doctest.DocTestRunner(verbose=False).run(test, out=told.append)
        self.assertEqual(results.failed, 0, "".join(told))

    def assert_interface(self, function, module, signature):
        self.assertEqual(function.__module__, module)
        self.assertEqual(str(inspect.signature(function)), signature)

    def assert_errors(self, function, good, wrong):
        """Try each wrong value of each parameter, with later parameters right or wrong too."""
        answer(function, **good)
        names = list(good)
        for at, name in enumerate(names):
            error, values = wrong[name]
            later = names[at + 1:]
            for number, value in enumerate(values):
                for chosen in itertools.product((False, True), repeat=len(later)):
                    arguments = {**good, name: value}
                    for other, is_wrong in zip(later, chosen):
                        if is_wrong:
                            others = wrong[other][1]
                            arguments[other] = others[number % len(others)]
                    self.assert_raises_exactly(error, function, arguments)

    def assert_raises_exactly(self, error, function, arguments):
        before = {name: repr(value) for name, value in arguments.items()}
        with self.subTest(function=function.__name__, arguments=before):
            with self.assertRaises(error) as caught:
                answer(function, **arguments)
            self.assertIs(caught.exception.__class__, error)
            self.assertEqual({name: repr(value) for name, value in arguments.items()}, before)

    def assert_arguments_kept(self, function, arguments):
        """By position and by name the same, arguments unchanged, lists new with each call."""
        before = copy.deepcopy(arguments)
        first = answer(function, **arguments)
        expected = copy.deepcopy(first)
        plain = [name for name in arguments if name != "right"]
        named = {name: arguments[name] for name in arguments if name == "right"}
        self.assertEqual(answer(function, *[arguments[name] for name in plain], **named), expected)
        self.assertEqual(answer(function, **dict(reversed(arguments.items()))), expected)
        self.assertEqual(arguments, before)
        spoil(first)
        self.assertEqual(arguments, before)
        self.assertEqual(answer(function, **arguments), expected)


def spoil(result):
    """Change a returned list and the lists within it; nothing else can be changed."""
    if not isinstance(result, list):
        return
    for item in result:
        spoil(item)
    result.append(-7)
    result.reverse()
