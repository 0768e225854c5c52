"""Points 2, 16, 19, 21, 24, 28, 30 and 40: what may be passed."""

from fairbatches.checks import (
    check_bound, check_count, check_delay, check_pair, check_recorders, check_ring, check_things, check_times, is_amount,
    is_name, is_row, is_share, is_split, is_weight,
)
from fairbatches.errors import BadCount, BadDelay, BadRing, BadTimes, BadWeight, NoRecorder, NoThing
from fairbatches.ratios import Ratio
from fairbatches.records import Records
from tests.support import ErrorCase, odd_lists, odd_values


class ChecksTest(ErrorCase):
    def test_names(self):
        for name in ("a", "z", "az", "abcdefgh", "zzzzzzzz", "share"):
            self.assertIs(is_name(name), True, name)

    def test_no_names(self):
        others = ["abcdefghi", "A", "aB", "a1", "1", "a_b", "a ", " a", "`", "{", "\u00e9", "a\u00df"]
        for value in [*odd_values(), *others, ["a"], ("a",)]:
            self.assertIs(is_name(value), False, value)

    def test_weights(self):
        for weight in (1, 2, 10 ** 60, Ratio(1, 10 ** 60), Ratio(7, 2)):
            self.assertIs(is_weight(weight), True)
        for value in (0, -1, Ratio(0), Ratio(-1, 10 ** 60), True, False, None, "1", "", [1], (1,), {1: 1}):
            self.assertIs(is_weight(value), False, value)

    def test_shares(self):
        for share in (1, Ratio(1), Ratio(2, 3), Ratio(10 ** 59 + 1, 2 * 10 ** 59)):
            self.assertIs(is_share(share), True)
        above = Ratio(10 ** 59 + 1, 10 ** 59)
        for value in [*odd_values(), 2, above, Ratio(1, 3), "2/3", [1], (1,), {1: 1}]:
            self.assertIs(is_share(value), False, value)

    def test_rows(self):
        for row in ([], (), ["a"], ("a",), ["b", "a"], ["a", "aa", "aaa"]):
            self.assertIs(is_row(row), True, row)
        for value in (
            None, True, 0, "", "ab", {}, {"a": 1}, Ratio(1), ["a", "a"], ("a", "b", "a"), [""], [None], ["a", "B"],
            [["a"]], [("a",)], ["a", {}], [["a"], ["a"]], [1], [Ratio(1, 2)], [True],
        ):
            self.assertIs(is_row(value), False, value)

    def test_splits(self):
        for value in ([["a"], ["b"]], [["b", "a"]], (("b",), ["a"]), [[], ["a"], [], ["b"]]):
            self.assertIs(is_split(value, ["a", "b"]), True, value)
        self.assertIs(is_split([], []), True)
        self.assertIs(is_split([[], ()], []), True)

    def test_no_splits(self):
        for value in [*odd_lists(), [["a"]], [["a"], ["b"], ["a"]], [["a", "b", "c"]], [["ab"]], ["ab"], [["a"], "b"]]:
            self.assertIs(is_split(value, ["a", "b"]), False, value)
        self.assertIs(is_split([["a", "b", 10 ** 5000]], ["a", "b"]), False)

    def test_check_things(self):
        records = Records({"ann": 1, "bob": 1}, 1, {"ann": ["a", "b"], "bob": ["c"]})
        check_things(records, ["c", "a", "b", "a"])
        check_things(records, [])
        for value in [*odd_values(), "d", ["a"]]:
            self.assert_given(NoThing, value, check_things, records, ["a", value, "x"])

    def test_check_count(self):
        for count in (1, 2, 5):
            check_count(count, 5)
        for count in (0, 6, -1, True, False, None, Ratio(1), "1", [1], (1,), {1: 1}):
            self.assert_given(BadCount, count, check_count, count, 5)

    def test_amounts(self):
        for number in (0, Ratio(0), 1, 10 ** 60, Ratio(1, 10 ** 60)):
            self.assertIs(is_amount(number), True)
            check_bound(number)
            check_delay(number)
        for value in (-1, Ratio(-1, 10 ** 60), True, False, None, "0", "", [0], (0,), {0: 0}):
            self.assertIs(is_amount(value), False)
            self.assert_given(BadWeight, value, check_bound, value)
            self.assert_given(BadDelay, value, check_delay, value)

    def test_check_recorders(self):
        records = Records({"bob": 1, "ann": 1}, 1, {"ann": ["a"]})
        for values in ([], ["ann", "bob", "ann"], ("bob",)):
            check_recorders(records, values)
        for value in [*odd_values(), "a", "cy"]:
            self.assert_given(NoRecorder, value, check_recorders, records, ["bob", value, "x"])

    def test_check_pair(self):
        records = Records({"ann": 1}, 1, {"ann": ["b", "a"]})
        check_pair(records, "a", "b")
        for value in [*odd_values(), "c"]:
            self.assert_given(NoThing, value, check_pair, records, value, "x")
            self.assert_given(NoThing, value, check_pair, records, "a", value)
        self.assert_given(NoThing, "a", check_pair, records, "a", "a")

    def test_check_ring(self):
        records = Records({"ann": 1, "bob": 1}, 1, {"ann": ["b", "a"], "bob": ["c"]})
        for value in (["a", "b"], ("c", "a"), ["c", "b", "a"]):
            check_ring(records, value)
        for value in [*odd_lists(), ["a"], ["a", "a"], ["a", "b", "a"], ["a", "d"], "abc", {"a": 1, "b": 2}]:
            self.assert_given(BadRing, value, check_ring, records, value)

    def test_check_times(self):
        records = Records({"ann": 1, "bob": 1}, 1, {"ann": ["b", "a"]})
        for value in ({"a": 0, "b": -1}, {"b": Ratio(1, 2), "a": 10 ** 70}):
            check_times(records, value)
        for value in [
            *odd_values(), {"a": 1}, {"a": 1, "b": 1, "c": 1}, {"a": 1, "c": 1}, {"a": 1, 2: 1}, {"a": True, "b": 1},
            {"a": 1, "b": None}, {"a": 1, "b": "1"}, {"a": [1], "b": 1}, ["a", "b"], [("a", 1), ("b", 1)], ("a", "b"),
        ]:
            self.assert_given(BadTimes, value, check_times, records, value)
        check_times(Records({"ann": 1}, 1, {}), {})
