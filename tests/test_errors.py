"""The error classes."""

import unittest

from backlinks import errors
from backlinks.errors import BacklinkError, Crossing, InvalidChange

WITH_TEXT = [
    "InvalidLog", "InvalidEntry", "InvalidTarget", "InvalidChain", "InvalidNumber", "InvalidSize", "InvalidKnown",
    "InvalidPrices", "InvalidBase", "InvalidTag", "InvalidText", "InvalidCommand", "Different", "NothingToUndo",
]
TEXTS = ["", "a", "no such entry: 7", "0 0 2", "{}", "\\", "a 'quoted' \"word\""]


class ErrorsTest(unittest.TestCase):
    def test_the_base_class_stands_directly_under_value_error(self):
        self.assertEqual(BacklinkError.__bases__, (ValueError,))

    def test_each_class_stands_directly_under_the_base_class(self):
        for name in WITH_TEXT + ["Crossing", "InvalidChange"]:
            with self.subTest(name):
                self.assertEqual(getattr(errors, name).__bases__, (BacklinkError,))

    def test_each_class_is_one_of_its_own(self):
        names = WITH_TEXT + ["Crossing", "InvalidChange", "BacklinkError"]
        self.assertEqual(sorted({getattr(errors, name).__name__ for name in names}), sorted(names))

    def test_the_text_of_an_error_is_the_text_it_was_created_with(self):
        for name in WITH_TEXT + ["BacklinkError"]:
            for text in TEXTS:
                with self.subTest(name, text=text):
                    self.assertEqual(str(getattr(errors, name)(text)), text)

    def test_errors_are_caught_by_their_class_and_by_the_classes_above_only(self):
        for name in WITH_TEXT:
            with self.subTest(name):
                for caught in (getattr(errors, name), BacklinkError, ValueError):
                    with self.assertRaises(caught):
                        raise getattr(errors, name)("told")
                for other in WITH_TEXT:
                    raised = isinstance(getattr(errors, name)("told"), getattr(errors, other))
                    self.assertEqual(raised, name == other)

    def test_crossing_keeps_its_two_entries(self):
        for entry, other in [(2, 3), (1, 149), (10 ** 99, -1), (5, 5), (3, 2)]:
            error = Crossing(entry, other)
            self.assertEqual((error.entry, error.other), (entry, other))
        with self.assertRaises(BacklinkError) as caught:
            raise Crossing(2, 4)
        self.assertIs(type(caught.exception), Crossing)
        self.assertEqual((caught.exception.entry, caught.exception.other), (2, 4))

    def test_invalid_change_keeps_its_index(self):
        for index in [0, 1, 19, 10 ** 99, -1]:
            self.assertEqual(InvalidChange(index).index, index)
        with self.assertRaises(ValueError) as caught:
            raise InvalidChange(7)
        self.assertIs(type(caught.exception), InvalidChange)
        self.assertEqual(caught.exception.index, 7)

    def test_two_errors_of_one_class_keep_their_own_values(self):
        one, other = Crossing(1, 2), Crossing(3, 4)
        self.assertEqual((one.entry, one.other, other.entry, other.other), (1, 2, 3, 4))
        first, second = InvalidChange(0), InvalidChange(1)
        self.assertEqual((first.index, second.index), (0, 1))


if __name__ == "__main__":
    unittest.main()
