"""Points 2 to 8 and 33 to 36: what can be given out while rows grow."""

import itertools
import math

from fairbatches.ahead import is_ahead
from fairbatches.batches import batches
from fairbatches.errors import NoThing, NoWay
from fairbatches.growing import (
    can_give, first_given, grown, is_grown, is_threat, open_to_strangers, ready, threat, threatens,
)
from fairbatches.ratios import Ratio
from fairbatches.records import Records
from tests import oracles
from tests.support import ErrorCase, odd_lists, odd_values

TWO_THIRDS = Ratio(2, 3)
ROWS = {"ann": ["a", "b"], "bob": ["a", "c"], "cy": ["b"]}
MANY = oracles.many_records(51, 200, 4, ["a", "b", "c"])
SMALL = [
    records for records in MANY if math.prod([len(rows) for rows in oracles.grown_rows(records, ("z",))]) <= 1000
]
LARGER = oracles.many_records(52, 120, 6, ["a", "b", "c", "d", "e", "f"])
EDGE = Ratio(1, 10 ** 50)


def some_records():
    """Three recorders; a and b can be given out."""
    return Records({"ann": 1, "bob": 1, "cy": 1}, TWO_THIRDS, ROWS)


def threats_of(records):
    """The pairs of which the first thing, or the stranger, threatens the second one, as the document says it."""
    whole = oracles.weight_of(records, records.recorders())
    need = oracles.as_fraction(records.share()) * whole
    things = records.things()
    found = {
        (one, other) for one, other in itertools.permutations(things, 2)
        if whole - oracles.support(records, other, one) >= need
    }
    for thing in things:
        seen = [name for name in records.recorders() if thing in records.row(name)]
        if whole - oracles.weight_of(records, seen) >= need:
            found.add(("", thing))
    return found


def sets_to_give(records, threatening):
    """All sets that can be given out [34], by their definition."""
    return [
        chosen for chosen in oracles.all_sets(records.things())
        if not [pair for pair in threatening if pair[0] not in chosen and pair[1] in chosen]
    ]


class GrowingCase(ErrorCase):
    def setUp(self):
        self.records = some_records()

    def tearDown(self):
        self.assertTrue(self.records == some_records())


class ExamplesTest(GrowingCase):
    def test_examples_of_the_interface(self):
        records = self.records
        self.assertEqual(
            (threatens(records, "b", "a"), threatens(records, "a", "b"), open_to_strangers(records, "a"),
             open_to_strangers(records, "c")),
            (False, True, False, True),
        )
        self.assertEqual(
            (ready(records), threat(records, "c"), threat(records, "b"), can_give(records, ["a"]), first_given(records)),
            (["a", "b"], ["c"], None, True, [["a"], ["b"]]),
        )
        self.assertEqual(
            (grown(records, "", "c").whole().text(), is_grown(records, records.seen("cy", "c"))), ("3", True),
        )
        self.error_of(NoWay, grown, records, "b", "a")


class ThreatensTest(GrowingCase):
    def test_against_all_rows_that_can_grow(self):
        self.assertGreater(len(SMALL), 40)
        counts = {True: 0, False: 0}
        for records in SMALL:
            wanted = oracles.threats(records, ("z",))
            for one, other in itertools.permutations(records.things(), 2):
                self.assertIs(threatens(records, one, other), (one, other) in wanted)
                counts[(one, other) in wanted] += 1
            for thing in records.things():
                self.assertIs(open_to_strangers(records, thing), ("z", thing) in wanted)
                counts[("z", thing) in wanted] += 1
        self.assertGreater(min(counts.values()), 50)

    def test_against_the_words_of_the_document(self):
        for records in LARGER:
            wanted = threats_of(records)
            for one, other in itertools.product(records.things(), repeat=2):
                self.assertIs(threatens(records, one, other), (one, other) in wanted)
            for thing in records.things():
                self.assertIs(open_to_strangers(records, thing), ("", thing) in wanted)

    def check_share(self, share, threatened):
        """Ann and bob, who weigh 2 of 6, have seen a ahead of b; dee has not seen anything."""
        rows = {"ann": ["a", "b"], "bob": ["a"], "cy": ["b", "a"]}
        records = Records({"ann": 1, "bob": 1, "cy": 1, "dee": 3}, share, rows)
        self.assertIs(threatens(records, "b", "a"), threatened)
        self.assertIs(open_to_strangers(records.with_row("cy", ["b"]), "a"), threatened)
        self.assertIs(open_to_strangers(records, "a"), False)

    def test_just_at_and_just_below_the_share_of_the_whole(self):
        self.check_share(TWO_THIRDS, True)
        self.check_share(TWO_THIRDS - EDGE, True)
        self.check_share(TWO_THIRDS + EDGE, False)

    def test_a_thing_and_itself(self):
        for thing in "abc":
            self.assertIs(threatens(self.records, thing, thing), False)
        empty = Records({"ann": 1, "bob": 9}, 1, {"ann": ["a"]})
        self.assertIs(threatens(empty, "a", "a"), False)

    def test_arguments_by_name(self):
        self.assertIs(threatens(other="b", one="a", records=self.records), True)
        self.assertIs(open_to_strangers(thing="c", records=self.records), True)


class GiveTest(GrowingCase):
    def test_against_a_trial_of_all_sets(self):
        sizes = set()
        for records in [*SMALL, *LARGER]:
            if len(records.things()) > 3:
                sets = sets_to_give(records, threats_of(records))
            else:
                sets = sets_to_give(records, oracles.threats(records, ("z",)))
            for chosen in oracles.all_sets(records.things()):
                self.assertIs(can_give(records, list(chosen)), chosen in sets)
            self.assertEqual(tuple(ready(records)), sets[-1])
            for chosen in sets:
                self.assertLessEqual(set(chosen), set(sets[-1]))
            sizes.add((len(sets[-1]), len(sets[-1]) == len(records.things())))
        self.assertGreater(len(sizes), 8)

    def test_main_statement_by_the_fair_orders_at_the_end(self):
        # A set can be given out just if all rows in the end have a fair order that begins with it.
        for records in SMALL[::2]:
            choices = list(itertools.product(*oracles.grown_rows(records, ("z",))))
            ends = [ahead for _, ahead in oracles.views(records, records.recorders(), choices, ("z",))]
            for chosen in oracles.all_sets(records.things()):
                fair = all(not (one not in chosen and other in chosen) for ahead in ends for one, other in ahead)
                self.assertIs(can_give(records, chosen), fair)

    def test_the_empty_list_things_twice_and_tuples(self):
        for things, wanted in (
            ([], True), ((), True), (["a", "a"], True), (("a",), True), (["b", "a", "b"], True), (("b", "a"), True),
            (["b", "b"], False), (("b",), False), (["a", "b", "c"], False), (["c", "c", "c"], False), (["c"], False),
        ):
            given = list(things)
            self.assertIs(can_give(self.records, things), wanted)
            self.assertEqual(list(things), given)
        self.assertIs(can_give(things=["a"], records=self.records), True)
        self.assertIs(can_give(Records({"ann": 1}, 1, {}), []), True)

    def test_ready(self):
        self.assertEqual(ready(Records({"ann": 1}, 1, {})), [])
        self.assertEqual(ready(Records({"ann": 1, "bob": 1}, 1, {"ann": ["b", "a"]})), ["a", "b"])
        self.assertEqual(ready(Records({"ann": 1, "bob": 1}, Ratio(51, 100), {"ann": ["b", "a"]})), ["a", "b"])
        self.assertEqual(ready(Records({"ann": 1, "bob": 2}, TWO_THIRDS, {"ann": ["b", "a"]})), [])
        for _ in range(2):
            found = ready(records=self.records)
            self.assertEqual((type(found), found), (list, ["a", "b"]))
            found.append("x")

    def test_what_is_ready_stays_ready_as_rows_grow(self):
        for records in LARGER[:40]:
            for name in records.recorders():
                row = records.row(name)
                for thing in [*records.things(), "x"]:
                    if thing not in row:
                        later = records.seen(name, thing)
                        self.assertLessEqual(set(ready(records)), set(ready(later)))
                        for one, other in itertools.permutations(records.things(), 2):
                            if threatens(later, one, other):
                                self.assertIs(threatens(records, one, other), True)


class ThreatTest(GrowingCase):
    def test_against_the_words_of_the_document(self):
        lengths = set()
        for records in [*SMALL[:40], *LARGER]:
            wanted = threats_of(records)
            for thing in records.things():
                found = threat(records, thing)
                if thing in ready(records):
                    self.assertIsNone(found)
                    continue
                self.assertEqual((type(found), found[-1]), (list, thing))
                self.assertEqual(len(set(found)), len(found))
                self.assertLessEqual(set(zip(["", *found], found)), wanted)
                self.assertIs(is_threat(records, thing, found), True)
                self.assertIs(is_threat(records, thing, tuple(found)), True)
                lengths.add(len(found))
        self.assertLessEqual({1, 2}, lengths)

    def test_is_threat_against_all_lists(self):
        counts = {True: 0, False: 0}
        for records in LARGER[:30]:
            wanted = threats_of(records)
            things = records.things()[:4]
            for value in oracles.all_rows(things):
                for thing in things:
                    right = bool(value) and value[-1] == thing and set(zip(["", *value], value)) <= wanted
                    self.assertIs(is_threat(records, thing, value), right)
                    counts[right] += 1
        self.assertGreater(min(counts.values()), 50)

    def test_chosen_values(self):
        rows = {"ann": ["b", "c"], "bob": ["c", "b", "a"]}
        records = Records({"ann": 1, "bob": 1, "cy": 2}, Ratio(3, 4), rows)
        self.assertEqual([open_to_strangers(records, thing) for thing in "abc"], [True, False, False])
        self.assertEqual([threatens(records, *pair) for pair in ("ab", "ac", "ba", "bc", "ca", "cb")], [
            False, False, True, True, True, True,
        ])
        self.assertEqual((ready(records), threat(records, "a"), threat(records, "b")), (["b", "c"], ["a"], None))
        for value in (["a"], ("a",)):
            self.assertIs(is_threat(records, "a", value), True)
        for value in (["b"], ["c", "b"], ["b", "a"], ["a", "b"], [], ["a", "a"]):
            self.assertIs(is_threat(records, "b", value), False)
            self.assertIs(is_threat(records, "a", value), False)

    def test_repetitions_and_ends(self):
        records = Records({"ann": 1, "bob": 5}, Ratio(4, 5), {"ann": ["a", "b", "c"]})
        for value in (["a"], ["c", "b", "a"], ("b", "a"), ["b", "c", "a"]):
            self.assertIs(is_threat(records, "a", value), True)
        for value in (["a", "a"], ["a", "b", "a"], ["b", "b", "a"], ["a", "b"], ["b"], [], ["", "a"], ["a", ""], [""]):
            self.assertIs(is_threat(records, "a", value), False)

    def test_is_threat_of_any_value(self):
        records = Records({"ann": 1, "bob": 5}, Ratio(4, 5), {"ann": ["a", "b", "c"]})
        for value in [*odd_lists(), ["z"], ["z", "a"], "a", "ba", {"a": 1}, ["a", "z"], [["a"]], [("a",)], ["b", {}, "a"]]:
            self.assertIs(is_threat(records, "a", value), False, value)
            self.assertIs(is_threat(self.records, "a", value), False, value)
        self.assertIs(is_threat(value=["a"], thing="a", records=records), True)

    def test_a_new_list_on_each_call(self):
        for _ in range(2):
            found = threat(thing="c", records=self.records)
            self.assertEqual(found, ["c"])
            found.append("x")


class GrownTest(GrowingCase):
    def assert_grown(self, records, one, other):
        """The told records have grown, and the pair, or a thing that was in no row and the second one, is ahead in them."""
        told = grown(records, one, other)
        self.assertIs(type(told), Records)
        self.assertIs(is_grown(records, told), True)
        for name in records.recorders():
            row = records.row(name)
            self.assertEqual(told.row(name)[:len(row)], row)
            self.assertEqual(told.weight(name), records.weight(name))
        self.assertEqual((told.recorders(), told.share()), (records.recorders(), records.share()))
        ahead = {pair[0] for pair in oracles.pairs(told) if pair[1] == other}
        if one == "":
            self.assertNotEqual(ahead - set(records.things()), set())
        else:
            self.assertIn(one, ahead)
            self.assertIs(is_ahead(told, one, other), True)

    def test_against_the_words_of_the_document(self):
        counts = {"": 0, "pair": 0, "none": 0}
        for records in [*SMALL, *LARGER]:
            wanted = threats_of(records)
            for one, other in itertools.product(["", *records.things()], records.things()):
                if (one, other) in wanted:
                    self.assert_grown(records, one, other)
                    counts["pair" if one else ""] += 1
                else:
                    self.error_of(NoWay, grown, records, one, other)
                    counts["none"] += 1
        self.assertGreater(min(counts.values()), 50)

    def test_a_thing_and_itself(self):
        for thing in "abc":
            self.error_of(NoWay, grown, self.records, thing, thing)

    def test_arguments_by_name(self):
        self.assertIs(is_ahead(grown(other="b", one="a", records=self.records), "a", "b"), True)

    def test_a_stranger_although_many_names_are_in_use(self):
        names = [one + other for one in "abcde" for other in "abcdefghijklmnopqrstuvwxyz"]
        for things in (names, ["aaaaaaaa", "aaaaaaab", "a", "aa", "z"]):
            records = Records({"ann": 1, "bob": 1, "cy": 1}, TWO_THIRDS, {"ann": things})
            told = grown(records, "", things[0])
            more = [thing for thing in told.things() if thing not in things]
            self.assertEqual(len(more), 1)
            self.assertIs(is_ahead(told, more[0], things[0]), True)

    def test_is_grown(self):
        records = self.records
        for told in (records, records.seen("cy", "z"), records.seen("ann", "c").seen("bob", "b"), some_records()):
            self.assertIs(is_grown(records, told), True)
        for name, row in (("ann", ["a"]), ("ann", []), ("ann", ["b", "a"]), ("bob", ["c", "a"]), ("cy", ["a", "b"]),
                          ("bob", ["a", "b", "c"]), ("bob", ["b", "a", "c"])):
            self.assertIs(is_grown(records, records.with_row(name, row)), False)
        self.assertIs(is_grown(other=records.seen("cy", "a"), records=records), True)
        self.assertIs(is_grown(other=records, records=records.seen("cy", "a")), False)

    def test_is_grown_with_something_else(self):
        self.assertIs(is_grown(self.records, self.records.with_share(1)), False)
        self.assertIs(is_grown(self.records, self.records.with_share(Ratio(4, 6))), True)
        weights = {"ann": 1, "bob": 1, "cy": 1}
        for name in weights:
            other = Records({**weights, name: Ratio(1, 2)}, TWO_THIRDS, ROWS)
            self.assertIs(is_grown(self.records, other), False)
        self.assertIs(is_grown(self.records, Records({**weights, "dee": 1}, TWO_THIRDS, ROWS)), False)
        self.assertIs(is_grown(self.records.with_row("cy", []), self.records.without("cy")), False)
        moved = Records({"ann": 1, "bob": 1, "dee": 1}, TWO_THIRDS, {"ann": ["a", "b"], "bob": ["a", "c"], "dee": ["b"]})
        self.assertIs(is_grown(self.records, moved), False)


class FirstGivenTest(GrowingCase):
    def test_against_a_trial_of_all_sets(self):
        lengths = set()
        for records in [*SMALL, *LARGER]:
            sets = sets_to_give(records, threats_of(records))
            order = []
            given = set()
            while given != set(sets[-1]):
                # Of the sets with what is given and as few things more as can be, the first one of the things more.
                larger = [sorted(set(chosen) - given) for chosen in sets if set(chosen) > given]
                order.append(min(larger, key=lambda part: (len(part), part)))
                given |= set(order[-1])
            self.assertEqual(first_given(records), order)
            lengths.update(len(part) for part in order)
        self.assertLessEqual({1, 2, 3}, lengths)

    def test_all_that_is_ready_in_whole_batches(self):
        for records in LARGER:
            order = first_given(records)
            self.assertEqual(sorted(thing for part in order for thing in part), ready(records))
            for batch in batches(records):
                self.assertLessEqual(len([part for part in order if set(batch) & set(part)]), 1)

    def test_the_first_one_of_several(self):
        records = Records({"ann": 1, "bob": 1}, 1, {"ann": ["c", "b", "a"], "bob": ["a", "c", "b"]})
        self.assertEqual(first_given(records), [["a"], ["c"], ["b"]])
        records = Records({"ann": 1, "bob": 1}, Ratio(51, 100), {"ann": ["d", "c", "b", "a"], "bob": ["d", "c", "b", "a"]})
        self.assertEqual(first_given(records), [["d"], ["c"], ["b"], ["a"]])

    def test_a_ring_comes_out_together(self):
        rows = {"ann": ["z", "b", "a", "c"], "bob": ["z", "a", "c", "b"], "cy": ["z", "c", "b", "a"]}
        records = Records({"ann": 1, "bob": 1, "cy": 1}, TWO_THIRDS, rows)
        for _ in range(2):
            found = first_given(records=records)
            self.assertEqual(found, [["z"], ["a", "b", "c"]])
            found[1].append("x")
            found.append([])

    def test_nothing(self):
        self.assertEqual(first_given(Records({"ann": 1}, 1, {})), [])
        self.assertEqual(first_given(Records({"ann": 1, "bob": 2}, TWO_THIRDS, {"ann": ["b", "a"]})), [])


class ErrorsTest(GrowingCase):
    def test_no_thing(self):
        for value in [*odd_values(), "d", "ann", "ab", ["a"], ("a",)]:
            for call in (open_to_strangers, threat):
                self.assert_given(NoThing, value, call, self.records, value)
            for given in (None, ["a"], [value]):
                self.assert_given(NoThing, value, is_threat, self.records, value, given)
            for things in ([value], ["c", value, "x"], ("a", value, None), [value, "x"]):
                self.assert_given(NoThing, value, can_give, self.records, things)
            self.assert_given(NoThing, value, threatens, self.records, value, "a")
            self.assert_given(NoThing, value, threatens, self.records, "a", value)
            self.assert_given(NoThing, value, threatens, self.records, value, "x")
            self.assert_given(NoThing, value, threatens, self.records, value, value)

    def test_no_thing_before_no_way(self):
        for value in [*odd_values(), "d", "ann", ["a"]]:
            if value != "":
                self.assert_given(NoThing, value, grown, self.records, value, "a")
                self.assert_given(NoThing, value, grown, self.records, value, "x")
                self.assert_given(NoThing, value, grown, self.records, value, value)
            self.assert_given(NoThing, value, grown, self.records, "b", value)
            self.assert_given(NoThing, value, grown, self.records, "", value)
        self.error_of(NoWay, grown, self.records, "", "a")
        self.error_of(NoWay, grown, self.records, "c", "a")


class LimitsTest(GrowingCase):
    def test_great_numbers_many_recorders_and_many_things(self):
        edge = 10 ** 59
        things = list("abcdefghijkl")
        rows = {name: things[at:] + things[:at] for at, name in enumerate(oracles.RECORDERS)}
        weights = {name: Ratio(edge + 7 * at * at, edge // 3 + at) for at, name in enumerate(oracles.RECORDERS)}
        records = Records(weights, Ratio(5 * edge // 8 + 1, edge), rows).with_row("hal", [])
        self.assertEqual(ready(records), things)
        self.assertEqual(sorted(thing for part in first_given(records) for thing in part), things)
        open_now = Records(weights, Ratio(5 * edge // 8 + 1, edge), {name: rows[name] for name in ("ann", "bob")})
        for name in ("cy", "dee", "eve", "flo"):
            open_now = open_now.seen(name, "a")
        self.assertEqual(ready(open_now), ["a"])
        for thing in things[1:]:
            self.assertIs(is_threat(open_now, thing, threat(open_now, thing)), True)
            self.assertIs(is_grown(open_now, grown(open_now, "", thing)), True)
