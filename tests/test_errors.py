"""Point 5: the classes of the errors."""

import unittest

from lowcolumns import errors
from lowcolumns.errors import LowcolumnsError

NAMES = [
    "InvalidStartError", "InvalidCardsError", "InvalidHeightError", "InvalidIndexError", "InvalidColumnError",
    "InvalidColumnsError", "InvalidNumberError", "InvalidFlagError", "InvalidTopsError", "InvalidWayError",
    "InvalidFormatError", "DifferentColumnsError", "TooLargeError", "FullError", "EmptyHistoryError",
]


class ErrorsTest(unittest.TestCase):

    def test_there_are_fifteen_classes_and_the_common_one(self):
        self.assertEqual(len(set(NAMES)), 15)
        defined = [name for name, value in vars(errors).items() if isinstance(value, type)]
        self.assertEqual(sorted(defined), sorted(NAMES + ["LowcolumnsError"]))

    def test_the_common_class_is_a_direct_subclass_of_value_error(self):
        self.assertEqual(LowcolumnsError.__bases__, (ValueError,))
        self.assertEqual(LowcolumnsError.__module__, "lowcolumns.errors")

    def test_each_class_is_a_direct_subclass_of_the_common_one(self):
        for name in NAMES:
            error = getattr(errors, name)
            with self.subTest(name):
                self.assertEqual(error.__bases__, (LowcolumnsError,))
                self.assertEqual((error.__name__, error.__module__), (name, "lowcolumns.errors"))

    def test_no_class_is_a_subclass_of_another(self):
        for name in NAMES:
            for other in NAMES:
                if name != other:
                    self.assertFalse(issubclass(getattr(errors, name), getattr(errors, other)), (name, other))

    def test_each_is_constructed_with_one_string(self):
        for name in NAMES + ["LowcolumnsError"]:
            made = getattr(errors, name)("told so")
            with self.subTest(name):
                self.assertEqual((str(made), made.args), ("told so", ("told so",)))
                with self.assertRaises(ValueError):
                    raise made


if __name__ == "__main__":
    unittest.main()
