"""Points 2 to 8 and 30 to 32: what is sure if recorders who are not known may have lied."""

import itertools

from fairbatches.ahead import chain, is_ahead
from fairbatches.batches import batches, is_fair, merged
from fairbatches.errors import BadOrder, BadWeight, NoThing
from fairbatches.liars import is_lie
from fairbatches.ratios import Ratio
from fairbatches.records import Records
from fairbatches.unsure import (
    doubt, firmness, may_be_ahead, may_be_before, sure_batches, sure_order, surely_ahead, surely_before,
)
from tests import oracles
from tests.support import ErrorCase, odd_lists, odd_values

TWO_THIRDS = Ratio(2, 3)
PAIRED = [surely_ahead, may_be_ahead, surely_before, may_be_before, doubt]
SMALL = oracles.many_records(41, 25, 3, ["a", "b", "c"])
LARGER = oracles.many_records(42, 30, 5, ["a", "b", "c", "d", "e"])
EDGE = Ratio(1, 10 ** 50)


def some_records():
    """Four recorders, three of whom agree."""
    rows = {"ann": ["a", "b"], "bob": ["a", "b"], "cy": ["a", "b"], "dee": ["b", "a"]}
    return Records({name: 1 for name in rows}, TWO_THIRDS, rows)


def five_records(share=Ratio(3, 5)):
    """Five recorders, for four of whom the things a, b, c and d are a ring, and e comes behind it for all of them."""
    rows = {"ann": "abcde", "bob": "bcdae", "cy": "cdabe", "dee": "dabce", "eve": ""}
    return Records({name: 1 for name in rows}, share, {name: list(row) for name, row in rows.items()})


def pairs_of(records):
    """All pairs of two different things."""
    return list(itertools.permutations(records.things(), 2))


def weights_of(records):
    """Weights of some lists of recorders, and weights just above and just below them, all as Ratios; and 0."""
    found = {0: Ratio(0)}
    for liars in oracles.groups(records):
        weight = records.weight_of(liars)
        for number in (weight - EDGE, weight, weight + EDGE):
            if 0 <= oracles.as_fraction(number):
                found[oracles.as_fraction(number)] = number
    return [found[key] for key in sorted(found)]


def truths(records):
    """For each list of recorders: what they can do if they are the ones who lied, by a trial of all rows."""
    return {
        tuple(liars): oracles.powers(records, liars, oracles.lies(records, liars)) for liars in oracles.groups(records)
    }


def possible(records, weight, able, wish):
    """The pairs for which some recorders of at most a weight can do something."""
    return {
        pair for liars, found in able.items() if oracles.weight_of(records, liars) <= oracles.as_fraction(weight)
        for pair in found[wish]
    }


class UnsureCase(ErrorCase):
    def setUp(self):
        self.records = some_records()

    def tearDown(self):
        self.assertTrue(self.records == some_records())

    def assert_doubt(self, records, weight, one, other):
        """What is told shows that there is not surely a chain; or nothing is told, and there is one."""
        found = doubt(records, weight, one, other)
        if found is None:
            self.assertIs(surely_before(records, weight, one, other), True)
            return
        self.assertIs(surely_before(records, weight, one, other), False)
        self.assertEqual((type(found), len(found)), (tuple, 2))
        liars, told = found
        self.assertEqual((type(liars), liars), (list, sorted(set(liars))))
        self.assertLessEqual(oracles.weight_of(records, liars), oracles.as_fraction(weight))
        self.assertIs(is_lie(records, liars, told), True)
        self.assertLessEqual({one, other}, set(told.things()))
        self.assertIsNone(oracles.shortest(told, one, other))


class ExamplesTest(UnsureCase):
    def test_examples_of_the_interface(self):
        records = self.records
        self.assertEqual(
            (surely_ahead(records, 0, "a", "b"), surely_ahead(records, 1, "a", "b"), may_be_ahead(records, 1, "b", "a"),
             may_be_before(records, 2, "b", "a")),
            (True, False, False, True),
        )
        self.assertEqual(
            (firmness(records, "a", "b").text(), surely_before(records, Ratio(1, 2), "a", "b"),
             len(doubt(records, 1, "a", "b")[0]), doubt(records, 0, "a", "b")),
            ("1", True, 1, None),
        )
        self.assertEqual(
            (sure_batches(records, 0), sure_order(records, 1, [["a"], ["b"]]), sure_order(records, 2, [["a"], ["b"]]),
             sure_order(records, 2, [["a", "b"]])),
            ([["a"], ["b"]], True, False, True),
        )
        self.assert_given(BadWeight, -1, surely_ahead, records, -1, "a", "c")


class PairsTest(UnsureCase):
    def test_against_all_lists_of_recorders_and_all_rows(self):
        counts = {}
        for records in SMALL:
            able = truths(records)
            for weight in weights_of(records):
                may = {wish: possible(records, weight, able, wish) for wish in ("put", "keep", "lead", "bar")}
                for pair in pairs_of(records):
                    found = [call(records, weight, *pair) for call in PAIRED[:4]]
                    wanted = [pair not in may["keep"], pair in may["put"], pair not in may["bar"], pair in may["lead"]]
                    self.assertEqual(found, wanted)
                    self.assertEqual({type(value) for value in found}, {bool})
                    for place, value in enumerate(found):
                        counts[(place, value)] = counts.get((place, value), 0) + 1
        self.assertGreater(min([counts.get((place, value), 0) for place in range(4) for value in (True, False)]), 20)

    def test_against_each_single_row_that_all_liars_write(self):
        for records in [*LARGER[:3], five_records()]:
            rows = oracles.all_rows(tuple(records.things()))
            able = {
                tuple(liars): oracles.powers(records, liars, [(row,) * len(liars) for row in (rows if liars else [()])])
                for liars in oracles.groups(records) if len(liars) <= 2
            }
            for weight in (0, Ratio(1, 2), 1):
                may = {wish: possible(records, weight, able, wish) for wish in ("put", "keep", "lead", "bar")}
                for pair in pairs_of(records):
                    self.assertEqual(
                        [call(records, weight, *pair) for call in PAIRED[:4]],
                        [pair not in may["keep"], pair in may["put"], pair not in may["bar"], pair in may["lead"]],
                    )

    def test_weight_zero(self):
        for records in LARGER:
            for weight in (0, Ratio(0), Ratio(1, 10 ** 60)):
                for pair in pairs_of(records):
                    for call in (surely_ahead, may_be_ahead):
                        self.assertIs(call(records, weight, *pair), is_ahead(records, *pair))
                    for call in (surely_before, may_be_before):
                        self.assertIs(call(records, weight, *pair), chain(records, *pair) is not None)

    def test_the_whole(self):
        for records in LARGER:
            for weight in (records.whole(), 10 ** 60):
                for pair in pairs_of(records):
                    self.assertEqual([call(records, weight, *pair) for call in PAIRED[:4]], [False, True, False, True])

    def test_just_at_and_just_below_the_weight_of_a_recorder(self):
        # Ann and cy, who weigh 13/3, are needed for the share of the whole, 4; bob weighs just the rest.
        weights = {"ann": Ratio(7, 3), "bob": Ratio(1, 3), "cy": 2}
        records = Records(weights, Ratio(6, 7), {"ann": ["a", "b"], "bob": ["b", "a"], "cy": ["a"]})
        for call in (surely_ahead, surely_before):
            self.assertIs(call(records, 2, "a", "b"), False)
            self.assertIs(call(records, Ratio(2) - EDGE, "a", "b"), True)
            self.assertIs(call(records, Ratio(1, 3), "a", "b"), True)
        for call in (may_be_ahead, may_be_before):
            for weight, wanted in ((Ratio(13, 3), True), (Ratio(13, 3) - EDGE, False), (4, False), (5, True)):
                self.assertIs(call(records, weight, "b", "a"), wanted)

    def test_arguments_by_name(self):
        self.assertIs(surely_ahead(other="b", one="a", weight=0, records=self.records), True)
        self.assertIs(may_be_ahead(other="b", one="a", weight=0, records=self.records), True)
        self.assertIs(surely_before(other="a", one="b", weight=0, records=self.records), False)
        self.assertIs(may_be_before(other="a", one="b", weight=0, records=self.records), False)
        self.assertEqual(doubt(other="a", one="b", weight=0, records=self.records)[0], [])
        self.assert_ratio(firmness(other="b", one="a", records=self.records), "1")


class DoubtTest(UnsureCase):
    def test_what_is_told(self):
        for records in [*SMALL, *LARGER, five_records()]:
            for weight in weights_of(records)[::4]:
                for pair in pairs_of(records):
                    self.assert_doubt(records, weight, *pair)

    def test_nobody_has_lied(self):
        liars, told = doubt(self.records, 0, "b", "a")
        self.assertEqual(liars, [])
        self.assertTrue(told == self.records)
        liars.append("x")
        self.assertEqual(doubt(self.records, 0, "b", "a")[0], [])

    def test_surely_a_chain_just_for_all_weights_below_the_firmness(self):
        for records in [*SMALL, *LARGER, five_records()]:
            for pair in pairs_of(records):
                firm = firmness(records, *pair)
                self.assertIs(type(firm), Ratio)
                self.assertEqual(firm == 0, chain(records, *pair) is None)
                self.assertIs(surely_before(records, firm, *pair), False)
                self.assertIsNotNone(doubt(records, firm, *pair))
                if not firm == 0:
                    self.assertIs(surely_before(records, firm - EDGE, *pair), True)
                    self.assertIs(surely_before(records, 0, *pair), True)
                    self.assertIsNone(doubt(records, firm - EDGE, *pair))

    def test_firmness_is_the_least_weight_of_those_who_can_bar(self):
        for records in SMALL:
            able = truths(records)
            for pair in pairs_of(records):
                weights = [oracles.weight_of(records, liars) for liars, found in able.items() if pair in found["bar"]]
                self.assert_ratio(firmness(records, *pair), str(min(weights)))

    def test_firmness_of_chains_of_several_things(self):
        five = five_records()
        for pair, text in (("ab", "1"), ("ac", "1"), ("ca", "1"), ("ae", "2"), ("ea", "0")):
            self.assert_ratio(firmness(five, *pair), text)
        self.assert_ratio(firmness(five.with_share(Ratio(51, 100)), "a", "e"), "2")
        self.assert_ratio(firmness(five.with_share(Ratio(4, 5)), "a", "e"), "1")


class SureBatchesTest(UnsureCase):
    def test_against_all_lists_of_recorders_and_all_rows(self):
        turned = Records({"p": 1, "q": 1, "r": 1}, TWO_THIRDS, {"p": ["a", "b", "c"], "q": ["b", "c", "a"], "r": ["c", "a", "b"]})
        for records in [*SMALL, turned, turned.with_share(Ratio(51, 100))]:
            able = truths(records)
            for weight in weights_of(records):
                apart = possible(records, weight, able, "part")
                wanted = {
                    tuple(other for other in records.things() if one == other or (one, other) not in apart)
                    for one in records.things()
                }
                self.assertEqual(sure_batches(records, weight), [list(batch) for batch in sorted(wanted)])

    def test_with_weight_zero_the_batches(self):
        for records in [*LARGER, five_records(), five_records(Ratio(2, 3))]:
            for weight in (0, Ratio(0), Ratio(1, 10 ** 60)):
                self.assertEqual(sure_batches(records, weight), batches(records))

    def test_with_more(self):
        # Of nine recorders five are needed. All pairs of the second ring have six; of the first one, a b has five.
        first = ["abc", "abc", "abc", "bca", "bca", "bca", "cab", "cab", "cba"]
        second = ["xyz", "yzx", "zxy"] * 3
        rows = {name: [*one, *other] for name, one, other in zip("pqrstuvwz", first, second)}
        records = Records({name: 1 for name in rows}, Ratio(51, 100), rows)
        for weight, parts in (
            (0, ["abc", "xyz"]), (Ratio(1) - EDGE, ["abc", "xyz"]), (1, ["a", "b", "c", "xyz"]),
            (Ratio(2) - EDGE, ["a", "b", "c", "xyz"]), (2, [*"abcxyz"]), (9, [*"abcxyz"]),
        ):
            self.assertEqual(sure_batches(records, weight), [list(part) for part in parts])

    def test_each_thing_in_one_set_and_all_sets_surely_merged(self):
        for records in LARGER:
            for weight in weights_of(records)[1::3]:
                found = sure_batches(records, weight)
                self.assertEqual(sorted(thing for batch in found for thing in batch), records.things())
                self.assertEqual(found, sorted(sorted(batch) for batch in found))
                for one, other in pairs_of(records):
                    sure = surely_before(records, weight, one, other) and surely_before(records, weight, other, one)
                    self.assertIs(any(one in batch and other in batch for batch in found), sure)

    def test_new_lists_on_each_call(self):
        for weight in (0, 1, 5):
            found = sure_batches(weight=weight, records=five_records())
            found[0].append("x")
            found.append(["y"])
            self.assertEqual(sorted(thing for batch in sure_batches(five_records(), weight) for thing in batch), [*"abcde"])

    def test_no_things(self):
        empty = Records({"ann": 1}, 1, {})
        self.assertEqual((sure_batches(empty, 0), sure_batches(empty, 5)), ([], []))
        self.assertIs(sure_order(empty, 5, []), True)


class SureOrderTest(UnsureCase):
    def test_against_all_lists_of_recorders_and_all_rows(self):
        counts = {True: 0, False: 0}
        for records in SMALL[::2]:
            able = truths(records)
            for weight in weights_of(records)[::2]:
                may = possible(records, weight, able, "put")
                for order in oracles.orders(records.things()):
                    place = {thing: at for at, part in enumerate(order) for thing in part}
                    wanted = not [pair for pair in may if place[pair[0]] > place[pair[1]]]
                    self.assertIs(sure_order(records, weight, order), wanted)
                    counts[wanted] += 1
        self.assertGreater(min(counts.values()), 50)

    def test_weight_zero_and_the_whole(self):
        for records in LARGER[:10]:
            for order in oracles.orders(records.things())[::5]:
                self.assertIs(sure_order(records, 0, order), is_fair(records, order))
                self.assertIs(sure_order(records, records.whole(), order), len(order) <= 1)

    def test_just_at_and_just_below_a_weight(self):
        self.assertIs(sure_order(self.records, Ratio(2) - EDGE, [["a"], ["b"]]), True)
        self.assertIs(sure_order(self.records, Ratio(2), [["a"], ["b"]]), False)

    def test_tuples_and_names_of_arguments(self):
        order = (["a"], ("b",))
        self.assertIs(sure_order(order=order, weight=1, records=self.records), True)
        self.assertIs(sure_order(self.records, 0, (("b",), ("a",))), False)
        self.assertEqual(order, (["a"], ("b",)))


class ErrorsTest(UnsureCase):
    def bad_weights(self):
        """Values that are no number, or one below 0."""
        return [value for value in odd_values() if not isinstance(value, (int, Ratio)) or isinstance(value, bool)] + [
            -1, -10 ** 60, Ratio(-1, 3), Ratio(-1, 10 ** 60), "0", [0], (1,), {0: 1},
        ]

    def test_bad_weight_first(self):
        for value in self.bad_weights():
            for call in PAIRED:
                for one, other in (("a", "b"), ("x", "b"), (None, "x"), ("a", "a")):
                    self.assert_given(BadWeight, value, call, self.records, value, one, other)
            self.assert_given(BadWeight, value, sure_batches, self.records, value)
            for order in ([["a"], ["b"]], [["a"]], None):
                self.assert_given(BadWeight, value, sure_order, self.records, value, order)

    def test_no_thing(self):
        calls = [lambda one, other, call=call, weight=weight: call(self.records, weight, one, other)
                 for call in PAIRED for weight in (0, 1, 4)]
        calls.append(lambda one, other: firmness(self.records, one, other))
        for value in [*odd_values(), "c", "ann", ["a"], ("a",)]:
            for call in calls:
                self.assert_given(NoThing, value, call, value, "b")
                self.assert_given(NoThing, value, call, "a", value)
                self.assert_given(NoThing, value, call, value, "x")
        for call in calls:
            self.assert_given(NoThing, "b", call, "b", "b")

    def test_bad_order(self):
        for value in [*odd_lists(), [["a"]], [["a"], ["b"], ["a"]], [["a"], [], ["b"]], [["a", "b", "c"]], ["a", "b"]]:
            for weight in (0, 2, Ratio(1, 2), 9):
                self.assert_given(BadOrder, value, sure_order, self.records, weight, value)


class LimitsTest(UnsureCase):
    def test_great_numbers_many_recorders_and_many_things(self):
        edge = 10 ** 59
        things = list("abcdefghijkl")
        rows = {name: things[at:] + things[:at] for at, name in enumerate(oracles.RECORDERS)}
        weights = {name: Ratio(edge + 7 * at * at, edge // 3 + at) for at, name in enumerate(oracles.RECORDERS)}
        records = Records(weights, Ratio(5 * edge // 8 + 1, edge), rows)
        self.assertIs(merged(records, "a", "l"), True)
        firm = firmness(records, "a", "l")
        self.assertIs(surely_before(records, firm, "a", "l"), False)
        self.assertIs(surely_before(records, firm - Ratio(1, edge), "a", "l"), True)
        self.assert_doubt(records, firm, "a", "l")
        self.assertEqual(sure_batches(records, 0), batches(records))
        self.assertEqual(sure_batches(records, records.whole()), [[thing] for thing in things])
        self.assertIs(sure_order(records, 0, [things]), True)
