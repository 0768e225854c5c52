"""Points 7 and 9: the error classes."""

import inspect
import unittest

from fairbatches import errors
from fairbatches.errors import OrderError
from fairbatches.ratios import Ratio

BARE = ["ByZero", "BadText", "NoWay", "LastOne", "UnlikeRecords", "NothingToUndo", "NothingToRedo"]
WITH_GIVEN = [
    "BadNumber", "BadName", "BadWeight", "BadShare", "BadRow", "BadOrder", "BadCount", "BadRing",
    "BadDelay", "BadTimes", "BadWish", "NoRecorder", "NoThing", "InUse",
]
WITH_LINE = ["BadLine"]

VALUES = [
    None, True, False, 0, -5, 10 ** 60, Ratio(1, 2), "", "some text", [], [1, ["a"]], (), (1, "a"), {}, {"a": [1], 2: None},
]


class ErrorsTest(unittest.TestCase):
    def test_order_error_is_directly_below_value_error(self):
        self.assertEqual(OrderError.__bases__, (ValueError,))

    def test_each_error_is_directly_below_order_error(self):
        for name in BARE + WITH_GIVEN + WITH_LINE:
            with self.subTest(name=name):
                self.assertEqual(getattr(errors, name).__bases__, (OrderError,))
                self.assertEqual(getattr(errors, name).__module__, "fairbatches.errors")

    def test_there_are_no_other_errors(self):
        found = [name for name, _ in inspect.getmembers(errors, inspect.isclass)]
        self.assertEqual(sorted(found), sorted(BARE + WITH_GIVEN + WITH_LINE + ["OrderError"]))

    def test_errors_without_attributes(self):
        for name in BARE:
            with self.subTest(name=name):
                error = getattr(errors, name)()
                self.assertEqual(vars(error), {})
                with self.assertRaises(ValueError):
                    raise error

    def check_attribute(self, name, attribute):
        error = getattr(errors, name)
        for value in VALUES:
            with self.subTest(name=name, value=value):
                by_position = error(value)
                by_name = error(**{attribute: value})
                for found in (by_position, by_name):
                    self.assertEqual(list(vars(found)), [attribute])
                    self.assertIs(type(getattr(found, attribute)), type(value))
                    self.assertEqual(getattr(found, attribute), value)

    def test_errors_with_the_attribute_given(self):
        for name in WITH_GIVEN:
            self.check_attribute(name, "given")

    def test_errors_with_the_attribute_line(self):
        for name in WITH_LINE:
            self.check_attribute(name, "line")

    def test_errors_with_an_attribute_can_be_caught_as_order_errors(self):
        for name in WITH_GIVEN + WITH_LINE:
            with self.subTest(name=name):
                with self.assertRaises(OrderError):
                    raise getattr(errors, name)(["a"])
