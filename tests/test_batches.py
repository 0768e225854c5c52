"""Points 4 to 8 and 18 to 20: batches and fair orders."""

import itertools

from fairbatches.ahead import is_ring
from fairbatches.batches import (
    against, batches, before, count_orders, fair_order, is_fair, is_finest, is_order, merged,
)
from fairbatches.errors import BadOrder, NoThing
from fairbatches.ratios import Ratio
from fairbatches.records import Records
from tests import oracles
from tests.support import ErrorCase, odd_lists, odd_values

ROWS = {"ann": ["a", "b", "c", "d"], "bob": ["b", "c", "a", "d"], "cy": ["c", "a", "b"]}
SMALL = oracles.many_records(2, 120, 4, ["a", "b", "c", "d"])
LARGER = oracles.many_records(3, 150, 5, ["a", "b", "c", "d", "e", "f"])


def some_records():
    """Three recorders; three of the things are a batch, and the fourth one comes behind it."""
    return Records({"ann": 1, "bob": 1, "cy": 1}, Ratio(2, 3), ROWS)


def tied_records(things):
    """Records in which nothing is ahead of anything."""
    return Records({"ann": 1, "bob": 1}, 1, {"ann": things, "bob": things[::-1]})


def two_rings():
    """Records with the rings a b c and x y z, each behind the single thing m, and neither ahead of the other one."""
    turned = [["a", "b", "c"], ["b", "c", "a"], ["c", "a", "b"]]
    others = [["x", "y", "z"], ["y", "z", "x"], ["z", "x", "y"]]
    rows = {}
    for at, (left, right) in enumerate(zip(turned, others)):
        rows["a" + "xyz"[at]] = ["m", *left, *right]
        rows["b" + "xyz"[at]] = ["m", *right, *left]
    return Records({name: 1 for name in rows}, Ratio(2, 3), rows)


class BatchesCase(ErrorCase):
    def setUp(self):
        self.records = some_records()

    def tearDown(self):
        self.assertTrue(self.records == some_records())


class ExamplesTest(BatchesCase):
    def test_examples_of_the_interface(self):
        records = self.records
        self.assertEqual(
            (batches(records), fair_order(records), is_fair(records, [["a", "b", "c", "d"]]),
             is_finest(records, [["b", "a", "c"], ["d"]])),
            ([["a", "b", "c"], ["d"]], [["a", "b", "c"], ["d"]], True, True),
        )
        self.assertEqual(
            (against(records, [["d"], ["c", "b", "a"]]), count_orders(records.with_share(1)),
             merged(records, "a", "c"), before(records, "a", "d")),
            (("a", "d"), 6, True, True),
        )
        self.assert_given(BadOrder, [["a"], ["b"]], is_fair, records, [["a"], ["b"]])


class ListTest(BatchesCase):
    def test_batches_are_ascending_and_in_ascending_order(self):
        self.assertEqual(batches(two_rings()), [["a", "b", "c"], ["m"], ["x", "y", "z"]])
        self.assertEqual(batches(Records({"ann": 1}, 1, {"ann": ["c", "ab", "b", "a"]})), [["a"], ["ab"], ["b"], ["c"]])

    def test_a_batch_that_is_no_ring_itself(self):
        # The rings a c e b and a d e b share three things; no ring holds all five.
        rows = {
            "ann": ["c", "d", "e", "b", "a", "z"], "bob": ["a", "d", "c", "e", "b", "z"],
            "cy": ["b", "a", "c", "d", "e", "z"], "dee": ["e", "b", "a", "d", "c", "z"],
        }
        records = Records({name: 1 for name in rows}, Ratio(3, 4), rows)
        for things in itertools.permutations("abcde"):
            self.assertIs(is_ring(records, things), False)
        self.assertEqual(batches(records), [["a", "b", "c", "d", "e"], ["z"]])
        self.assertEqual(fair_order(records), [["a", "b", "c", "d", "e"], ["z"]])
        self.assertIs(merged(records, "c", "d"), True)

    def test_records_without_things(self):
        empty = Records({"ann": 1}, 1, {})
        self.assertEqual((batches(empty), fair_order(empty)), ([], []))

    def test_against_the_words_of_the_document(self):
        for records in SMALL + LARGER:
            self.assertEqual(batches(records), oracles.batches(records))

    def test_new_lists_on_each_call(self):
        for call in (batches, fair_order):
            found = call(self.records)
            found[0].append("x")
            found.append(["y"])
            self.assertEqual(call(self.records), [["a", "b", "c"], ["d"]])
            self.assertEqual([type(part) for part in [call(self.records), *call(self.records)]], [list] * 3)

    def test_arguments_by_name(self):
        self.assertEqual(batches(records=self.records), [["a", "b", "c"], ["d"]])
        self.assertEqual(fair_order(records=self.records), [["a", "b", "c"], ["d"]])


class MainStatementTest(ErrorCase):
    def test_each_list_of_a_fair_order_is_made_up_of_whole_batches(self):
        for records in SMALL:
            parts = oracles.batches(records)
            for order in oracles.orders(records.things()):
                if is_fair(records, order):
                    for batch in parts:
                        self.assertEqual(len([part for part in order if set(batch) & set(part)]), 1)

    def test_batches_are_part_of_those_with_a_lesser_share(self):
        shares = [Ratio(51, 100), Ratio(3, 5), Ratio(2, 3), Ratio(3, 4), 1]
        for records in LARGER:
            found = [batches(records.with_share(share)) for share in shares]
            for more, less in zip(found, found[1:]):
                for batch in less:
                    self.assertTrue(any(set(batch) <= set(other) for other in more))


class FairOrderTest(BatchesCase):
    def wanted(self, records):
        """Always the first batch of which no thing has one of another batch ahead of it that is not given yet."""
        ahead = oracles.pairs(records)
        left = oracles.batches(records)
        order = []
        while left:
            for batch in left:
                others = [thing for other in left if other != batch for thing in other]
                if not ahead & set(itertools.product(others, batch)):
                    order.append(batch)
                    left.remove(batch)
                    break
        return order

    def test_against_the_words_of_the_document(self):
        for records in SMALL + LARGER:
            found = fair_order(records)
            self.assertEqual(found, self.wanted(records))
            self.assertIs(is_finest(records, found), True)

    def test_several_batches_of_which_nothing_is_ahead(self):
        self.assertEqual(fair_order(tied_records(["c", "a", "d", "b"])), [["a"], ["b"], ["c"], ["d"]])
        self.assertEqual(fair_order(two_rings()), [["m"], ["a", "b", "c"], ["x", "y", "z"]])

    def test_a_batch_that_becomes_free_comes_before_later_ones(self):
        # Only c is ahead of b, and only b of a; d is free all the time.
        rows = {"ann": ["c", "b", "a", "d"], "bob": ["d", "c", "b", "a"]}
        records = Records({"ann": 1, "bob": 1}, 1, rows)
        self.assertEqual(fair_order(records), [["c"], ["b"], ["a"], ["d"]])
        rows = {"ann": ["d", "a", "c", "b"], "bob": ["c", "b", "d", "a"]}
        records = Records({"ann": 1, "bob": 1}, 1, rows)
        self.assertEqual(fair_order(records), [["c"], ["b"], ["d"], ["a"]])


class IsOrderTest(BatchesCase):
    def test_orders(self):
        for order in ([["a", "b", "c", "d"]], [["d"], ["c"], ["b"], ["a"]], [["d", "a"], ["c", "b"]], [["c"], ["b", "a", "d"]]):
            for same in (order, tuple(order), [tuple(part) for part in order], tuple(tuple(part) for part in order)):
                self.assertIs(is_order(self.records, same), True)

    def test_no_orders(self):
        for value in [
            *odd_lists(), "abcd", ["a", "b", "c", "d"], ["abcd"], ["ab", "cd"], {"a": 1, "b": 2, "c": 3, "d": 4},
            [{"a": 1, "b": 2, "c": 3, "d": 4}], {("a", "b", "c", "d"): 1}, [[["a", "b", "c", "d"]]],
            [["a", "b", "c", "d"], []], [[], ["a", "b", "c", "d"]], [["a", "b"], (), ["c", "d"]],
            [["a", "b", "c", "d"], ["a"]], [["a", "b", "c", "d", "d"]], [["a", "a"], ["b", "c"]], [["a", "b", "c", "c"]],
            [["a", "b", "c"]], [["a"], ["b"], ["d"]], [["a", "b", "c", "d", "e"]], [["a", "b", "c", "e"]],
            [["a", "b", "c", "d"], "e"], [["a", "b", "c", "d"], None], [["a", "b", "c"], "d"], [["a", "b", "c", ["d"]]],
            [["a", "b", "c", None]], [["a", "b", "c", "d", True]], [["a", "b", "c", 1]], [["a", "b", "c", Ratio(1)]],
            [["a", "b", "c", {}]], [["a", "b", "c", ("d",)]], [["A", "b", "c", "d"]], [["a", "b", "c", "d", ""]],
        ]:
            with self.subTest(value=value):
                self.assertIs(is_order(self.records, value), False)
                for call in (is_fair, is_finest, against):
                    self.assert_given(BadOrder, value, call, self.records, value)

    def test_records_without_things(self):
        empty = Records({"ann": 1}, 1, {})
        for value in ([], ()):
            self.assertIs(is_order(empty, value), True)
            self.assertIs(is_fair(empty, value), True)
            self.assertIs(is_finest(empty, value), True)
            self.assertIsNone(against(empty, value))
        for value in ([[]], [["a"]], None, "", {}, [[], []], ((),)):
            self.assertIs(is_order(empty, value), False)
            self.assert_given(BadOrder, value, is_fair, empty, value)
        self.assertIs(is_order(self.records, []), False)

    def test_arguments_by_name(self):
        order = [["a", "b", "c", "d"]]
        self.assertIs(is_order(value=order, records=self.records), True)
        self.assertIs(is_fair(order=order, records=self.records), True)
        self.assertIs(is_finest(order=order, records=self.records), False)
        self.assertIsNone(against(order=order, records=self.records))

    def test_orders_are_not_changed(self):
        order = [["c", "b", "a"], ["d"]]
        for call in (is_order, is_fair, is_finest, against):
            call(self.records, order)
        self.assertEqual(order, [["c", "b", "a"], ["d"]])


class FairTest(BatchesCase):
    def test_fair_and_finest(self):
        for order, fair, finest, pair in [
            ([["a", "b", "c"], ["d"]], True, True, None),
            ([["c", "a", "b"], ["d"]], True, True, None),
            ([["d", "c", "b", "a"]], True, False, None),
            ([["d"], ["a", "b", "c"]], False, False, ("a", "d")),
            ([["b", "c"], ["a"], ["d"]], False, False, ("a", "b")),
            ([["a"], ["b", "c"], ["d"]], False, False, ("c", "a")),
            ([["a", "b"], ["c", "d"]], False, False, ("c", "a")),
            ([["a", "d"], ["b", "c"]], False, False, ("b", "d")),
            ([["d"], ["c"], ["b"], ["a"]], False, False, ("a", "b")),
        ]:
            for same in (order, tuple(tuple(part) for part in order)):
                self.assertIs(is_fair(self.records, same), fair)
                self.assertIs(is_finest(self.records, same), finest)
                self.assertEqual(against(self.records, same), pair)
        self.assertIs(type(against(self.records, [["d"], ["a", "b", "c"]])), tuple)

    def test_batches_that_are_split_or_joined_are_not_finest(self):
        records = tied_records(["a", "b"])
        for order, finest in (([["a"], ["b"]], True), ([["b"], ["a"]], True), ([["a", "b"]], False)):
            self.assertIs(is_fair(records, order), True)
            self.assertIs(is_finest(records, order), finest)

    def test_against_the_words_of_the_document(self):
        for records in SMALL:
            finest = oracles.finest_orders(records)
            for order in oracles.orders(records.things()):
                wrong = oracles.unfair_pairs(records, order)
                self.assertEqual(against(records, order), wrong[0] if wrong else None)
                self.assertIs(is_fair(records, order), not wrong)
                self.assertIs(is_finest(records, order), order in finest)

    def test_the_very_value_is_named(self):
        value = ((["a"], "b"), {"c": [None]})
        for call in (is_fair, is_finest, against):
            self.assert_given(BadOrder, value, call, self.records, value)


class CountTest(BatchesCase):
    def test_with_rings(self):
        self.assert_same(count_orders(self.records), 1)
        self.assert_same(count_orders(two_rings()), 2)

    def test_without_pairs(self):
        for many, wanted in ((0, 1), (1, 1), (2, 2), (3, 6), (5, 120), (12, 479001600)):
            self.assert_same(count_orders(tied_records(list("lkjihgfedcba")[:many])), wanted)

    def test_without_things(self):
        self.assert_same(count_orders(Records({"ann": 1}, 1, {})), 1)

    def test_one_row(self):
        self.assert_same(count_orders(records=Records({"ann": 1}, 1, {"ann": list("lkjihgfedcba")})), 1)

    def test_against_the_words_of_the_document(self):
        for records in SMALL:
            self.assert_same(count_orders(records), len(oracles.finest_orders(records)))


class MergedTest(BatchesCase):
    def test_merged(self):
        for one in "abcd":
            for other in "abcd":
                self.assertIs(merged(self.records, one, other), one == other or "d" not in (one, other))
        self.assertIs(merged(other="d", one="a", records=self.records), False)

    def test_before(self):
        for one in "abcd":
            for other in "abcd":
                self.assertIs(before(self.records, one, other), one != "d" and other == "d")
        self.assertIs(before(other="d", one="a", records=self.records), True)

    def test_batches_of_which_neither_must_be_earlier(self):
        records = two_rings()
        for one, other in itertools.product("abc", "xyz"):
            for pair in ((one, other), (other, one)):
                self.assertIs(before(records, *pair), False)
                self.assertIs(merged(records, *pair), False)
        for other in "abcxyz":
            self.assertIs(before(records, "m", other), True)
            self.assertIs(before(records, other, "m"), False)

    def test_before_by_a_chain_alone(self):
        # By two thirds of the whole a is ahead of b, and b of c, but not a of c.
        rows = {"ann": ["a", "b", "c"], "bob": ["c", "a", "b"], "cy": ["b", "c", "a"]}
        records = Records({"ann": 3, "bob": 1, "cy": 2}, Ratio(2, 3), rows)
        self.assertEqual(oracles.pairs(records), {("a", "b"), ("b", "c")})
        self.assertIs(before(records, "a", "c"), True)
        self.assertIs(before(records, "c", "a"), False)

    def test_against_the_words_of_the_document(self):
        for records in SMALL:
            finest = oracles.finest_orders(records)
            places = [{thing: at for at, part in enumerate(order) for thing in part} for order in finest]
            for one, other in itertools.product(records.things(), repeat=2):
                self.assertIs(merged(records, one, other), all(place[one] == place[other] for place in places))
                self.assertIs(before(records, one, other), all(place[one] < place[other] for place in places))

    def test_no_thing(self):
        for value in [*odd_values(), "e", "ann", ["a"], ("a",)]:
            for call in (merged, before):
                self.assert_given(NoThing, value, call, self.records, value, "a")
                self.assert_given(NoThing, value, call, self.records, "a", value)
                self.assert_given(NoThing, value, call, self.records, value, value)
                self.assert_given(NoThing, value, call, self.records, value, "z")

    def test_the_first_of_the_two_counts(self):
        for call in (merged, before):
            self.assert_given(NoThing, "y", call, self.records, "y", "z")
            self.assert_given(NoThing, "z", call, self.records, "a", "z")
            self.assert_given(NoThing, "y", call, self.records, other=None, one="y")
            self.assert_given(NoThing, "a", call, Records({"ann": 1}, 1, {}), "a", "b")


class LimitsTest(ErrorCase):
    def test_eight_recorders_and_twelve_things(self):
        things = list("abcdefghijkl")
        rows = {name: things[at:] + things[:at] for at, name in enumerate(oracles.RECORDERS)}
        records = Records({name: Ratio(10 ** 59, 7) for name in rows}, Ratio(7, 8), rows)
        self.assertEqual(batches(records), [things])
        self.assertEqual(batches(records.with_share(1)), oracles.batches(records.with_share(1)))
        self.assertIs(is_finest(records.with_share(1), fair_order(records.with_share(1))), True)
