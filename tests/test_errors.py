"""leastheads.errors: the classes, their base, their texts and their fields."""

import inspect
import unittest

from leastheads import errors

WITH_TEXT = [
    "InvalidNumbers", "InvalidFamily", "InvalidPlan", "InvalidIndex", "UnknownNumber",
    "InvalidCount", "InvalidLengths", "InvalidFacts", "Different", "InvalidOpen",
    "UnknownSource", "UnknownMerger", "UnknownLane", "InvalidNumber", "ClosedSource",
    "UsedNumber", "NothingOnTheWay", "NothingToUndo", "InvalidText", "InvalidCommand", "NoNet",
]
WITH_VALUE = [
    ("Contradiction", "indices", [0, 2, 5]),
    ("Misplaced", "pair", (3, 1)),
    ("TooMany", "many", 20001),
]


class ErrorsTest(unittest.TestCase):
    def test_there_are_exactly_the_listed_classes(self):
        names = [name for name, _ in inspect.getmembers(errors, inspect.isclass)]
        listed = ["HeadsError", *WITH_TEXT, *[name for name, _, _ in WITH_VALUE]]
        self.assertEqual(sorted(names), sorted(listed))
        self.assertEqual(len(set(listed)), 25)

    def test_the_classes_are_defined_in_this_file(self):
        for _, error in inspect.getmembers(errors, inspect.isclass):
            self.assertEqual(error.__module__, "leastheads.errors")

    def test_the_base_stands_directly_under_value_error(self):
        self.assertEqual(errors.HeadsError.__bases__, (ValueError,))

    def test_every_class_stands_directly_under_the_base(self):
        for name in WITH_TEXT + [name for name, _, _ in WITH_VALUE]:
            self.assertEqual(getattr(errors, name).__bases__, (errors.HeadsError,), name)

    def test_the_text_is_kept(self):
        for name in ["HeadsError", *WITH_TEXT]:
            for text in ("", "x", "two words", "a" * 4000):
                with self.assertRaises(ValueError) as caught:
                    raise getattr(errors, name)(text)
                self.assertEqual(str(caught.exception), text)

    def test_the_value_is_kept(self):
        for name, field, value in WITH_VALUE:
            with self.assertRaises(errors.HeadsError) as caught:
                raise getattr(errors, name)(value)
            self.assertEqual(getattr(caught.exception, field), value)
            self.assertIs(type(getattr(caught.exception, field)), type(value))

    def test_each_error_keeps_its_own_value(self):
        for name, field, value in WITH_VALUE:
            first = getattr(errors, name)(value)
            other = getattr(errors, name)(value + value)
            self.assertEqual(getattr(first, field), value)
            self.assertEqual(getattr(other, field), value + value)

    def test_edges_of_the_values(self):
        self.assertEqual(errors.Contradiction([]).indices, [])
        self.assertEqual(errors.Contradiction(list(range(60))).indices, list(range(60)))
        self.assertEqual(errors.Misplaced((-(10 ** 30 - 1), 0)).pair, (-(10 ** 30 - 1), 0))
        self.assertEqual(errors.TooMany(10 ** 4500).many, 10 ** 4500)

    def test_every_error_has_a_text(self):
        for error in (errors.Contradiction([0]), errors.Misplaced((3, 1)), errors.TooMany(10 ** 4500)):
            self.assertIsInstance(str(error), str)

    def test_changing_the_list_later_does_not_reach_the_error(self):
        indices = [0, 1]
        error = errors.Contradiction(indices)
        indices.append(2)
        self.assertEqual(error.indices, [0, 1])
        error.indices.append(7)
        self.assertEqual(indices, [0, 1, 2])


if __name__ == "__main__":
    unittest.main()
