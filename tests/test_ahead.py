"""Points 2, 3, 5 to 8, 16 and 17: who is ahead of whom, chains and rings."""

from fractions import Fraction

from fairbatches.ahead import ahead_pairs, chain, is_ahead, is_chain, is_ring, ring, support
from fairbatches.errors import NoThing
from fairbatches.ratios import Ratio
from fairbatches.records import Records
from tests import oracles
from tests.support import ErrorCase, odd_lists, odd_values

ROWS = {"ann": ["a", "b", "c", "d"], "bob": ["b", "c", "a", "d"], "cy": ["c", "a", "b"]}
MANY = oracles.many_records(1, 150, 5, ["a", "b", "c", "d", "e"])


def some_records():
    """Three recorders, one of whom has not seen all; three of the things are a ring."""
    return Records({"ann": 1, "bob": 1, "cy": 1}, Ratio(2, 3), ROWS)


def long_ring(things):
    """Records in which just these things are a ring, and each is ahead of the next one alone."""
    turned = {name: things[at:] + things[:at] for at, name in enumerate(things)}
    count = len(things)
    return Records({name: 1 for name in things}, Ratio(count - 1, count), turned)


class AheadCase(ErrorCase):
    def setUp(self):
        self.records = some_records()

    def tearDown(self):
        self.assertTrue(self.records == some_records())


class ExamplesTest(AheadCase):
    def test_examples_of_the_interface(self):
        records = self.records
        self.assertEqual(
            (support(records, "a", "b").text(), is_ahead(records, "b", "a"), ahead_pairs(records)),
            ("2", False, [("a", "b"), ("a", "d"), ("b", "c"), ("b", "d"), ("c", "a"), ("c", "d")]),
        )
        self.assertEqual(
            (chain(records, "b", "a"), ring(records, "a"), ring(records, "d"), is_ring(records, ["b", "c", "a"]),
             is_chain(records, ["d"])),
            (["b", "c", "a"], ["a", "b", "c"], None, True, False),
        )
        self.assert_given(NoThing, "e", support, records, "a", "e")


class SupportTest(AheadCase):
    def test_each_pair(self):
        wanted = {
            "ab": "2", "ac": "1", "ad": "3", "ba": "1", "bc": "2", "bd": "3",
            "ca": "2", "cb": "1", "cd": "3", "da": "0", "db": "0", "dc": "0",
        }
        for (one, other), text in wanted.items():
            self.assert_ratio(support(self.records, one, other), text)

    def test_a_thing_and_itself(self):
        for thing in "abcd":
            self.assert_ratio(support(self.records, thing, thing), "0")
            self.assertIs(is_ahead(self.records, thing, thing), False)

    def test_things_that_some_recorders_have_not_seen(self):
        records = Records(
            {"ann": 1, "bob": Ratio(1, 2), "cy": 5, "dee": Ratio(1, 3)}, Ratio(2, 3),
            {"ann": ["a", "b"], "bob": ["a"], "dee": ["b"]},
        )
        self.assert_ratio(support(records, "a", "b"), "3/2")
        self.assert_ratio(support(records, "b", "a"), "1/3")

    def test_arguments_by_name(self):
        self.assert_ratio(support(other="b", one="a", records=self.records), "2")
        self.assertIs(is_ahead(other="b", records=self.records, one="a"), True)
        self.assertEqual(len(ahead_pairs(records=self.records)), 6)

    def test_against_the_words_of_the_document(self):
        for records in MANY:
            for one in records.things():
                for other in records.things():
                    wanted = oracles.support(records, one, other) if one != other else 0
                    self.assert_ratio(support(records, one, other), str(wanted))


class IsAheadTest(AheadCase):
    def check_share(self, share, wanted):
        """Ann and bob, who have seen a ahead of b, weigh 2 of 3."""
        records = Records({"ann": 1, "bob": 1, "cy": 1}, share, {"ann": ["a", "b"], "bob": ["a"], "cy": ["b", "a"]})
        self.assertIs(is_ahead(records, "a", "b"), wanted)
        self.assertIs(is_ahead(records, "b", "a"), False)
        self.assertEqual(ahead_pairs(records), [("a", "b")] if wanted else [])
        self.assertIs(is_chain(records, ["a", "b"]), wanted)

    def test_the_support_just_at_the_share_of_the_whole(self):
        self.check_share(Ratio(2, 3), True)

    def test_the_support_just_above_the_share_of_the_whole(self):
        self.check_share(Ratio(2 * 10 ** 58 - 1, 3 * 10 ** 58), True)

    def test_the_support_just_below_the_share_of_the_whole(self):
        self.check_share(Ratio(2 * 10 ** 58 + 1, 3 * 10 ** 58), False)
        self.check_share(1, False)

    def test_all_recorders(self):
        records = Records({"ann": Ratio(1, 3), "bob": Ratio(1, 7)}, 1, {"ann": ["a"], "bob": ["a", "b"]})
        self.assertIs(is_ahead(records, "a", "b"), True)
        self.assertIs(is_ahead(records, "b", "a"), False)

    def test_weights_count_and_not_heads(self):
        rows = {"ann": ["a", "b"], "bob": ["b", "a"], "cy": ["b", "a"]}
        records = Records({"ann": 4, "bob": 1, "cy": 1}, Ratio(2, 3), rows)
        self.assertEqual(ahead_pairs(records), [("a", "b")])
        records = Records({"ann": Ratio(39, 10), "bob": 1, "cy": 1}, Ratio(2, 3), rows)
        self.assertEqual(ahead_pairs(records), [])

    def test_a_recorder_with_an_empty_row_is_part_of_the_whole(self):
        rows = {"ann": ["a", "b"], "bob": ["a", "b"]}
        self.assertEqual(ahead_pairs(Records({"ann": 1, "bob": 1, "cy": 1}, Ratio(2, 3), rows)), [("a", "b")])
        self.assertEqual(ahead_pairs(Records({"ann": 1, "bob": 1, "cy": 2}, Ratio(2, 3), rows)), [])

    def test_all_pairs_are_ascending_tuples(self):
        records = Records({"z": 1}, 1, {"z": ["c", "ab", "a", "b"]})
        wanted = [("a", "b"), ("ab", "a"), ("ab", "b"), ("c", "a"), ("c", "ab"), ("c", "b")]
        self.assertEqual(ahead_pairs(records), wanted)
        self.assertIs(type(ahead_pairs(records)), list)
        self.assertEqual([type(pair) for pair in ahead_pairs(records)], [tuple] * 6)

    def test_no_pairs(self):
        self.assertEqual(ahead_pairs(Records({"ann": 1}, 1, {})), [])
        self.assertEqual(ahead_pairs(Records({"ann": 1}, 1, {"ann": ["a"]})), [])

    def test_against_the_words_of_the_document(self):
        for records in MANY:
            wanted = oracles.pairs(records)
            self.assertEqual(ahead_pairs(records), sorted(wanted))
            for one in records.things():
                for other in records.things():
                    self.assertIs(is_ahead(records, one, other), (one, other) in wanted)

    def test_a_new_list_on_each_call(self):
        ahead_pairs(self.records).append("x")
        self.assertEqual(len(ahead_pairs(self.records)), 6)


class MainStatementTest(ErrorCase):
    def test_a_pair_that_is_ahead_stays_ahead_as_rows_grow(self):
        for records in MANY:
            grown = records
            for recorder in records.recorders():
                for thing in ("c", "new", "a", "e"):
                    if thing not in grown.row(recorder):
                        grown = grown.seen(recorder, thing)
                        self.assertLessEqual(set(ahead_pairs(records)), set(ahead_pairs(grown)))

    def test_no_further_pair_is_ahead_with_a_greater_share(self):
        shares = [Ratio(51, 100), Ratio(3, 5), Ratio(2, 3), Ratio(3, 4), 1]
        for records in MANY:
            found = [set(ahead_pairs(records.with_share(share))) for share in shares]
            for more, less in zip(found, found[1:]):
                self.assertLessEqual(less, more)


class ChainTest(AheadCase):
    def check_chain(self, records, one, other):
        """A chain is as short as possible, and each thing but the last one is ahead of the next one."""
        found = chain(records, one, other)
        wanted = oracles.shortest(records, one, other)
        if wanted is None:
            self.assertIsNone(found)
            return
        self.assertIs(type(found), list)
        self.assertEqual((found[0], found[-1], len(found)), (one, other, wanted))
        self.assertLessEqual(set(zip(found, found[1:])), oracles.pairs(records))

    def test_against_the_words_of_the_document(self):
        for records in MANY:
            for one in records.things():
                for other in records.things():
                    self.check_chain(records, one, other)

    def test_the_fewest_things(self):
        records = long_ring(["a", "b", "c", "d", "e", "f"])
        self.assertEqual(chain(records, "b", "c"), ["b", "c"])
        self.assertEqual(chain(records, "d", "b"), ["d", "e", "f", "a", "b"])
        straight = Records({"ann": 1}, 1, {"ann": ["e", "d", "c", "b", "a"]})
        self.assertEqual(chain(straight, "e", "a"), ["e", "a"])
        self.assertEqual(chain(other="b", one="c", records=straight), ["c", "b"])

    def test_there_is_none(self):
        for one in "abc":
            self.assertIsNone(chain(self.records, "d", one))
        tied = Records({"ann": 1, "bob": 1}, 1, {"ann": ["a", "b"], "bob": ["b", "a"]})
        self.assertIsNone(chain(tied, "a", "b"))

    def test_one_and_other_the_same(self):
        self.assertEqual(chain(self.records, "b", "b"), ["b", "c", "a", "b"])
        self.assertIsNone(chain(self.records, "d", "d"))
        records = long_ring(["a", "b", "c", "d", "e", "f"])
        self.assertEqual(chain(records, "e", "e"), ["e", "f", "a", "b", "c", "d", "e"])

    def test_a_new_list_on_each_call(self):
        chain(self.records, "b", "a").append("x")
        ring(self.records, "b").append("x")
        self.assertEqual(chain(self.records, "b", "a"), ["b", "c", "a"])
        self.assertEqual(ring(self.records, "b"), ["b", "c", "a"])


class RingTest(AheadCase):
    def test_a_shortest_ring_begins_with_the_thing(self):
        for thing, wanted in (("a", ["a", "b", "c"]), ("b", ["b", "c", "a"]), ("c", ["c", "a", "b"]), ("d", None)):
            self.assertEqual(ring(self.records, thing), wanted)
        self.assertEqual(ring(long_ring(["a", "b", "c", "d", "e"]), "d"), ["d", "e", "a", "b", "c"])
        self.assertEqual(ring(thing="a", records=self.records), ["a", "b", "c"])

    def test_two_things_are_never_a_ring(self):
        for records in MANY:
            for one in records.things():
                for other in records.things():
                    self.assertIs(is_ring(records, [one, other]), False)

    def test_against_the_words_of_the_document(self):
        for records in MANY:
            ahead = oracles.pairs(records)
            for thing in records.things():
                found = ring(records, thing)
                wanted = oracles.shortest(records, thing, thing)
                if wanted is None:
                    self.assertIsNone(found)
                else:
                    self.assertEqual((found[0], len(found), len(set(found))), (thing, wanted - 1, wanted - 1))
                    self.assertLessEqual(set(zip(found, found[1:] + found[:1])), ahead)
                    self.assertIs(is_ring(records, found), True)

    def test_there_are_rings_of_several_lengths_among_the_records(self):
        found = [ring(records, thing) for records in MANY for thing in records.things()]
        self.assertLessEqual({3, 4}, {len(one) for one in found if one})


class IsChainTest(AheadCase):
    def check(self, value, chained, ringed):
        """Look at a value, and at the same one with a tuple."""
        with self.subTest(value=value):
            for same in (value, tuple(value)):
                self.assertIs(is_chain(self.records, same), chained)
                self.assertIs(is_ring(self.records, same), ringed)

    def test_chains_that_are_no_rings(self):
        for text in ("ab", "bc", "ca", "ad", "bd", "cd", "abd", "bcd", "abcd", "abca", "abcabcab", "abcad"):
            self.check(list(text), True, False)

    def test_rings(self):
        for text in ("abc", "bca", "cab"):
            self.check(list(text), True, True)

    def test_a_thing_twice(self):
        self.check(["a", "b", "c", "a"], True, False)
        self.check(["a", "b", "c", "a", "b", "c"], True, False)
        self.check(["a", "a"], False, False)
        self.check(["d", "d"], False, False)

    def test_no_chains(self):
        for text in ("", "a", "d", "ba", "cb", "ac", "da", "dab", "acb", "adb", "abdc", "bac"):
            self.check(list(text), False, False)

    def test_things_that_stand_in_no_row(self):
        for value in (["a", "z"], ["z", "a"], ["a", "b", "c", "z"], ["z", "y"], ["z"], ["a", ""], ["a", "b", "C"]):
            self.check(value, False, False)

    def test_values_that_are_no_lists_of_strings(self):
        for value in [*odd_lists(), "abc", "ab", {"a": 1, "b": 1, "c": 1}, [["a"], ["b"], ["c"]], [["a", "b", "c"]]]:
            with self.subTest(value=value):
                self.assertIs(is_chain(self.records, value), False)
                self.assertIs(is_ring(self.records, value), False)
        for odd in odd_values():
            for value in (["a", odd], [odd, "b"], ["a", "b", "c", odd], [odd, odd], ["a", odd, "b"], (odd, "a", "b")):
                self.assertIs(is_chain(self.records, value), False)
                self.assertIs(is_ring(self.records, value), False)

    def test_records_without_things(self):
        empty = Records({"ann": 1}, 1, {})
        for value in ([], ["a"], ["a", "b"], ["a", "b", "c"]):
            self.assertIs(is_chain(empty, value), False)
            self.assertIs(is_ring(empty, value), False)

    def test_arguments_by_name(self):
        self.assertIs(is_chain(value=["a", "b"], records=self.records), True)
        self.assertIs(is_ring(value=["a", "b", "c"], records=self.records), True)

    def test_values_are_not_changed(self):
        value = ["a", "b", "c"]
        is_chain(self.records, value)
        is_ring(self.records, value)
        self.assertEqual(value, ["a", "b", "c"])


class NoThingTest(AheadCase):
    def test_any_value_that_is_no_thing(self):
        for value in [*odd_values(), "e", "aa", ["a"], ("a",), {"a": "b"}, ["a", "b"], "a b"]:
            with self.subTest(value=value):
                for call in (support, is_ahead, chain):
                    self.assert_given(NoThing, value, call, self.records, value, "a")
                    self.assert_given(NoThing, value, call, self.records, "a", value)
                    self.assert_given(NoThing, value, call, self.records, value, value)
                self.assert_given(NoThing, value, ring, self.records, value)

    def test_the_first_of_the_two_counts(self):
        for call in (support, is_ahead, chain):
            self.assert_given(NoThing, "y", call, self.records, "y", "z")
            self.assert_given(NoThing, None, call, self.records, None, ["z"])
            self.assert_given(NoThing, ["y"], call, self.records, other="z", one=["y"])

    def test_records_without_things(self):
        empty = Records({"ann": 1}, 1, {})
        for call in (support, is_ahead, chain):
            self.assert_given(NoThing, "a", call, empty, "a", "b")
        self.assert_given(NoThing, "a", ring, empty, "a")

    def test_names_of_recorders_are_no_things(self):
        self.assert_given(NoThing, "ann", support, self.records, "a", "ann")


class LimitsTest(ErrorCase):
    def test_great_numbers_many_recorders_and_many_things(self):
        edge = 10 ** 59
        things = list("abcdefghijkl")
        weights = {name: Ratio(edge + 7 * at, edge * 3 - at) for at, name in enumerate(oracles.RECORDERS)}
        rows = {name: things[at:] + things[:at] for at, name in enumerate(oracles.RECORDERS)}
        records = Records(weights, Ratio(edge * 7, edge * 8 + 1000), rows)
        self.assertEqual(ahead_pairs(records), sorted(oracles.pairs(records)))
        self.assertEqual(len(ring(records, "c")), 8)
        self.assert_ratio(support(records, "a", "l"), str(oracles.support(records, "a", "l")))

    def test_the_very_share_of_great_weights(self):
        weights = {"ann": Ratio(1, 10 ** 59), "bob": Ratio(10 ** 59, 3), "cy": Ratio(7, 10 ** 58 + 1)}
        whole = sum(oracles.as_fraction(weight) for weight in weights.values())
        share = (oracles.as_fraction(weights["bob"]) + oracles.as_fraction(weights["cy"])) / whole
        rows = {"ann": ["b"], "bob": ["a", "b"], "cy": ["a"]}
        for more, wanted in ((0, True), (Fraction(1, 10 ** 200), False)):
            at = Ratio((share + more).numerator, (share + more).denominator)
            self.assertIs(is_ahead(Records(weights, at, rows), "a", "b"), wanted)
