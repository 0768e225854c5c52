"""Point 2: names, numbers, weights, shares and rows."""

import unittest

from fairbatches.checks import is_name, is_row, is_share, is_weight
from fairbatches.ratios import Ratio
from tests.support import odd_values


class ChecksTest(unittest.TestCase):
    def test_names(self):
        for name in ("a", "z", "az", "abcdefgh", "zzzzzzzz", "share"):
            self.assertIs(is_name(name), True, name)

    def test_no_names(self):
        others = ["abcdefghi", "A", "aB", "a1", "1", "a_b", "a ", " a", "`", "{", "\u00e9", "a\u00df"]
        for value in [*odd_values(), *others, ["a"], ("a",)]:
            self.assertIs(is_name(value), False, value)

    def test_weights(self):
        for weight in (1, 2, 10 ** 60, Ratio(1, 10 ** 60), Ratio(7, 2)):
            self.assertIs(is_weight(weight), True)
        for value in (0, -1, Ratio(0), Ratio(-1, 10 ** 60), True, False, None, "1", "", [1], (1,), {1: 1}):
            self.assertIs(is_weight(value), False, value)

    def test_shares(self):
        for share in (1, Ratio(1), Ratio(2, 3), Ratio(10 ** 59 + 1, 2 * 10 ** 59)):
            self.assertIs(is_share(share), True)
        above = Ratio(10 ** 59 + 1, 10 ** 59)
        for value in [*odd_values(), 2, above, Ratio(1, 3), "2/3", [1], (1,), {1: 1}]:
            self.assertIs(is_share(value), False, value)

    def test_rows(self):
        for row in ([], (), ["a"], ("a",), ["b", "a"], ["a", "aa", "aaa"]):
            self.assertIs(is_row(row), True, row)
        for value in (
            None, True, 0, "", "ab", {}, {"a": 1}, Ratio(1), ["a", "a"], ("a", "b", "a"), [""], [None], ["a", "B"],
            [["a"]], [("a",)], ["a", {}], [["a"], ["a"]], [1], [Ratio(1, 2)], [True],
        ):
            self.assertIs(is_row(value), False, value)
