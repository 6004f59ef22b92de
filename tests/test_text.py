"""Point 20, with points 3 to 8 as far as they concern lowcolumns/text.py."""

import unittest

from lowcolumns.errors import InvalidCardsError, InvalidFormatError, InvalidStartError, TooLargeError
from lowcolumns.text import format_cards, parse_cards, picture
from tests.support import (
    H, LARGE, OTHER_KINDS, WRONG, WRONG_CARDS, WRONG_STARTS, Z, FunctionCase, Row, mixed, plain_laying,
    small_samples, wide_samples,
)

EXAMPLE = """
>>> from lowcolumns.text import format_cards, parse_cards, picture
>>> [format_cards([0, 0, 0], [5, 2, 4]), parse_cards("1 0:")]
['0 0 0: 5 2 4', ([1, 0], [])]
>>> picture([1, 0], [2, 1])
['#a', 'ba']
"""

NO_STRINGS = [value for value in OTHER_KINDS if not isinstance(value, str)] + [
    0, 5, [], ["0:"], ("0:",), [0], {"0:": "0:"}, b"0:", bytearray(b"0:"), Row("0:"), ([0], []),
]

WRONG_TEXTS = [
    # No colon, or not one.
    "", "0", "0 0 0", "0 0 0 5 2 4", "0;", "0; 5", "0::", "0:: 5", "0: 5:", "0: 5: 2", ":0: 5", "0:0: 5", "0 : 0: 5",
    # No start, or blanks that are not single spaces at their places.
    ":", ": 5", " : 5", " 0: 5", "0 : 5", "0  0: 5", "0 0 : 5", "0:5", "0:  5", "0: 5 ", "0: 5  2", "0: ", "0:  ",
    "0:\n", "0: 5\n", "\n0: 5", "0\n0: 5", "0: 5\n2", "0\t0: 5", "0: 5\t2", "0:\t5", "0\n:", "0\r: 5", "0: 5\r\n",
    "0\u00a00: 5", "0:\u00a05", "0\u20030: 5", "0: 5\x0b2", "0: 5\x002", "0,0: 5", "0: 5,2", "0, 0: 5, 2",
    # Words that are not numbers without signs and leading zeros.
    "00: 5", "01: 5", "0: 05", "0: 0005", "0 00: 5", "0: 5 02", "+0: 5", "-0: 5", "0: +5", "0: -5", "0: 5 +2", "-1: 5",
    "0: 5 -2", "0.0: 5", "0: 5.0", "0: 1e3", "0: 1_0", "1_0: 1", "0: 0x5", "0: five", "a: 5", "0: a", "0: 5 a", "0: 5a",
    "0: None", "[0]: [5]", "0: 5#", "\u0665: 5", "0: \u0665", "0: \u00b2", "0: \u2075", "0: 1\u0660", "\uff10: 5",
    "0: \uff15", "0: \u096b", "0: \u4e94", "0:\ud800", "0: True", "False: 1",
    # Numbers out of their bounds, and too many of them.
    "0: 0", "0: 5 0", "0: 0 5", "0 0 0: 5 0 4", f"{LARGE + 1}: 5", f"0 {LARGE + 1}: 5", f"0: {LARGE + 1}",
    f"0: 5 {LARGE + 1}", f"0: {LARGE}0", f"{LARGE}0: 5", "0: 1" + "0" * 5000, "1" + "0" * 5000 + ": 5",
    "0: " + "9" * 31, "0: " + "9" * 5000,
    "0 " * 30 + "0:", "0 " * 30 + "0: 5", "1 " * 99 + "1:", "0:" + " 1" * 201, "0:" + " 1" * 250, "0:" + " 5" * 3000,
]

LETTERS = "abcdefghijklmnopqrstuvwxyz"


def plain_picture(start, heights):
    """Return the rows of a picture, sign by sign."""
    places, stages = plain_laying(start, heights)
    rows = []
    for row in range(max(stages[-1])):
        signs = ["#" if row < height else "." for height in start]
        for card, (column, top) in enumerate(places):
            if top <= row < top + heights[card]:
                signs[column] = LETTERS[card]
        rows.append("".join(signs))
    return rows


class StringsTest(FunctionCase):

    def test_example_of_the_document(self):
        self.assert_example(EXAMPLE)

    def test_interface(self):
        for function, signature in (
            (format_cards, "(start, heights)"),
            (parse_cards, "(text)"),
            (picture, "(start, heights)"),
        ):
            self.assert_interface(function, "lowcolumns.text", signature)

    def test_strings_as_by_hand(self):
        for start, heights, text in (
            ([0, 0, 0], [5, 2, 4], "0 0 0: 5 2 4"),
            ([0, 0, 0], [], "0 0 0:"),
            ([0], [], "0:"),
            ([0], [1], "0: 1"),
            ([7], [10, 200], "7: 10 200"),
            ([10, 0, 203], [10], "10 0 203: 10"),
            ([LARGE], [LARGE], "1" + "0" * 30 + ": 1" + "0" * 30),
            ([LARGE - 1], [LARGE - 1], "9" * 30 + ": " + "9" * 30),
            ([0] * 30, [1] * 200, "0" + " 0" * 29 + ":" + " 1" * 200),
        ):
            self.assertEqual(format_cards(start, heights), text)
            self.assertEqual(parse_cards(text), (start, heights))

    def test_each_is_for_the_other(self):
        for start, heights in list(small_samples(3)) + list(wide_samples()):
            text = format_cards(start, heights)
            self.assertEqual(text, " ".join(map(str, start)) + ":" + "".join(f" {height}" for height in heights))
            self.assertEqual(parse_cards(text), (start, heights))

    def test_the_longest_string(self):
        start, heights = [LARGE] * 30, [LARGE] * 200
        text = format_cards(start, heights)
        self.assertEqual(len(text), 230 * 32)
        self.assertEqual(parse_cards(text), (start, heights))

    def test_strings_that_are_none(self):
        for text in WRONG_TEXTS:
            self.assert_raises_exactly(InvalidFormatError, parse_cards, {"text": text})

    def test_other_values_than_strings(self):
        for value in NO_STRINGS:
            self.assert_raises_exactly(InvalidFormatError, parse_cards, {"text": value})

    def test_one_sign_more_or_less_at_any_place(self):
        text = "10 0: 2 30"
        good = {"10 0: 2 30"}
        for place in range(len(text) + 1):
            for sign in ["", " ", "0", "4", ":", "-", "+", "\n", "\t", "_", ".", "x", "\u0664"]:
                for rest in (text[place:], text[place + 1:]):
                    changed = text[:place] + sign + rest
                    if changed not in good:
                        self.assert_parsed_as_written(changed)

    def assert_parsed_as_written(self, text):
        """The string is read only if it is written again just so."""
        try:
            start, heights = parse_cards(text)
        except InvalidFormatError:
            # A string that stays good with this change must be read.
            head, colon, tail = text.partition(":")
            numbers = head.split(" ") + tail.split(" ")[1:]
            plain = all(number in map(str, range(5000)) for number in numbers)
            self.assertFalse(
                plain and colon == ":" and tail[:1] in ("", " ") and "0" not in tail.split(" "), repr(text))
        else:
            self.assertEqual(format_cards(start, heights), text)

    def test_bounds_of_the_numbers(self):
        self.assertEqual(parse_cards(f"{LARGE} 0: {LARGE} 1"), ([LARGE, 0], [LARGE, 1]))
        self.assertEqual(parse_cards("0" + " 0" * 29 + ":" + " 9" * 200), ([0] * 30, [9] * 200))


class PictureTest(FunctionCase):

    def test_samples_are_as_by_hand(self):
        for start, heights in small_samples():
            self.assertEqual(picture(start, heights), plain_picture(start, heights))
        for seed in range(40):
            start, heights = mixed(seed, 1 + seed % 30, 0, seed), mixed(seed + 50, seed % 27, 1, 1 + seed % 7)
            if max(plain_laying(start, heights)[1][-1]) <= 60:
                self.assertEqual(picture(start, heights), plain_picture(start, heights))

    def test_pictures_as_by_hand(self):
        self.assertEqual(picture([0, 0, 0], [2, 1]), ["ab.", "a.."])
        self.assertEqual(picture([0, 0, 0], [2, 1, 3, 1]), ["abc", "adc", "..c"])
        self.assertEqual(picture([2, 0], [1]), ["#a", "#."])
        self.assertEqual(picture([3, 1], [1, 1, 2]), ["##", "#a", "#b", "c.", "c."])
        self.assertEqual(picture([0], [1] * 26), list(LETTERS))

    def test_no_rows(self):
        self.assertEqual(picture([0], []), [])
        self.assertEqual(picture([0] * 30, []), [])

    def test_no_cards(self):
        self.assertEqual(picture([1, 0, 2], []), ["#.#", "..#"])
        self.assertEqual(picture([60], []), ["#"] * 60)

    def test_sixty_rows_and_one_more(self):
        for start, heights in (([0], [60]), ([60], []), ([59], [1]), ([0, 60], [1, 1]), ([0] * 30, [59] * 25 + [60])):
            rows = picture(start, heights)
            self.assertEqual(rows, plain_picture(start, heights))
            self.assertEqual(len(rows), 60)
        for start, heights in (
            ([0], [61]), ([61], []), ([60], [1]), ([0, 61], [1, 1]), ([0] * 30, [61]), ([LARGE], []), ([0], [LARGE]),
            ([LARGE] * 30, [LARGE] * 26), ([0, 0], [1, 60, 60]),
        ):
            self.assert_raises_exactly(TooLargeError, picture, {"start": start, "heights": heights})

    def test_26_cards_and_one_more(self):
        for start in ([0], [0] * 30, [3, 1, 4]):
            self.assertEqual(picture(start, [1] * 26), plain_picture(start, [1] * 26))
            for heights in ([1] * 27, [1] * 59, [1] * 200, [LARGE] * 200):
                self.assert_raises_exactly(TooLargeError, picture, {"start": start, "heights": heights})

    def test_wrong_arguments_come_before_too_large_ones(self):
        for start in WRONG_STARTS:
            for heights in ([1] * 27, [61], [0]):
                self.assert_raises_exactly(InvalidStartError, picture, {"start": start, "heights": heights})
        for heights in WRONG_CARDS:
            self.assert_raises_exactly(InvalidCardsError, picture, {"start": [LARGE], "heights": heights})


class KindsOfStringsTest(FunctionCase):

    def test_kinds_of_results(self):
        self.assertIs(type(format_cards(Z, H)), str)
        parsed = parse_cards("0 3: 5 1")
        self.assertEqual([type(parsed), type(parsed[0]), type(parsed[1])], [tuple, list, list])
        self.assertEqual([type(number) for part in parsed for number in part], [int] * 4)
        rows = picture(Z, H)
        self.assertEqual([type(rows)] + [type(row) for row in rows], [list] + [str] * 7)

    def test_arguments_are_kept_and_results_are_new(self):
        for start, heights in ((Z, H), ([7], []), ([3, 0], [9, 1, 1]), ([0] * 30, [2] * 26)):
            pair = {"start": list(start), "heights": list(heights)}
            self.assert_arguments_kept(format_cards, pair)
            self.assert_arguments_kept(picture, pair)

    def test_parsed_lists_are_new(self):
        for text in ("0 3: 5 1", "0:"):
            self.assertEqual(parse_cards(text=text), parse_cards(text))
            start, heights = parse_cards(text)
            before = (list(start), list(heights))
            start.append(8)
            heights.append(9)
            self.assertEqual(parse_cards(text), before)

    def test_wrong_arguments(self):
        for pair in ({"start": Z, "heights": H}, {"start": [5], "heights": []}):
            self.assert_errors(format_cards, pair, WRONG)
            self.assert_errors(picture, pair, WRONG)

    def test_valid_edges_raise_nothing(self):
        for start in ([0], [LARGE], [0] * 30, [LARGE] * 30):
            for heights in ([], [1], [LARGE], [1] * 200, [LARGE] * 200):
                self.assertEqual(parse_cards(format_cards(start, heights)), (start, heights))


if __name__ == "__main__":
    unittest.main()
