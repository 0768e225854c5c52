"""What several tests need."""

import unittest

from fairbatches.errors import BadLine
from fairbatches.ratios import Ratio


def odd_values():
    """Values of every kind that a caller may pass, none of them a name or a number above 1/2 and at most 1."""
    return [
        None, True, False, 0, -1, 7, Ratio(-1, 3), Ratio(0), Ratio(1, 2), Ratio(9, 2),
        "", "Ann", "a b", "ninechars", "an1", "a-b", "a\n", "1", [], ["ann"], [["ann"]], (), ("ann", 1),
        {}, {"ann": 1}, [None, Ratio(1, 2)], {1: [2]},
    ]


class ErrorCase(unittest.TestCase):
    """A test case that looks at the errors themselves."""

    def error_of(self, error, call, *values, **named):
        """Return the error that a call raises; it is of just this class."""
        with self.assertRaises(error) as caught:
            call(*values, **named)
        self.assertIs(type(caught.exception), error)
        return caught.exception

    def assert_same(self, found, wanted):
        """Compare kinds too, because 1, True and Ratio(1) could be taken for one another."""
        self.assertIs(type(found), type(wanted))
        self.assertEqual(found, wanted)

    def assert_given(self, error, wanted, call, *values, **named):
        """The call raises the error with the very value."""
        self.assert_same(self.error_of(error, call, *values, **named).given, wanted)

    def assert_line(self, wanted, call, text):
        """The call raises BadLine with this number."""
        self.assert_same(self.error_of(BadLine, call, text).line, wanted)

    def assert_ratio(self, found, text):
        """The value is the Ratio with a text."""
        self.assertIs(type(found), Ratio)
        self.assertEqual(found.text(), text)


def odd_lists():
    """Lists, and values that are none, that hold what may be neither a thing nor a list of things."""
    return [
        *odd_values(), "ab", {"a": 1, "b": 2}, {"a": ["b"]}, [None], [True, False], [1, 2], [Ratio(1, 2)], [{}, {}],
        [[]], [[[]]], [["a"], "b"], ["a", ["b"]], ["a", None], [None, "a"], ["a", 1], ["a", {}], ["", ""], [["a", 1]],
        ([None],), [["a", ["b"]]], [[["a"]], [["b"]]], [{"a": 1}, {"b": 1}],
    ]
