"""Points 2 to 8 and 24 to 27: what known liars can do."""

import itertools

from fairbatches.ahead import chain, is_ahead
from fairbatches.batches import merged
from fairbatches.errors import BadWish, NoRecorder, NoThing
from fairbatches.liars import (
    barring, can_bar, can_keep, can_lead, can_part, can_put, is_lie, leading, least_lot, parting,
)
from fairbatches.ratios import Ratio
from fairbatches.records import Records
from tests import oracles
from tests.support import ErrorCase, odd_values

TWO_THIRDS = Ratio(2, 3)
CAN = {"put": can_put, "keep": can_keep, "lead": can_lead, "bar": can_bar, "part": can_part}
TELLS = {"lead": leading, "bar": barring, "part": parting}
FUNCTIONS = [*CAN.values(), *TELLS.values()]
SMALL = oracles.many_records(20, 60, 4, ["a", "b", "c"])
LARGER = oracles.many_records(22, 40, 5, ["a", "b", "c", "d", "e"])


def some_records():
    """Three recorders, two of whom agree."""
    return Records({"ann": 1, "bob": 1, "cy": 1}, TWO_THIRDS, {"ann": ["a", "b"], "bob": ["a", "b"], "cy": ["b", "a"]})


def ring_records(share=Ratio(3, 5)):
    """Five recorders, for four of whom the things a, b, c and d are a ring; the fifth one has seen z alone."""
    rows = {
        "ann": ["a", "b", "c", "d"], "bob": ["b", "c", "d", "a"], "cy": ["c", "d", "a", "b"], "dee": ["d", "a", "b", "c"],
        "eve": ["z"],
    }
    return Records({name: 1 for name in rows}, share, rows)


def pairs_of(records):
    """All pairs of two different things."""
    return list(itertools.permutations(records.things(), 2))


class LiarsCase(ErrorCase):
    def setUp(self):
        self.records = some_records()

    def tearDown(self):
        self.assertTrue(self.records == some_records())

    def assert_told(self, records, liars, wish, one, other):
        """The told records differ by the rows of the liars alone, and are as the wish says; or nobody can do it."""
        told = TELLS[wish](records, liars, one, other)
        if told is None:
            self.assertIs(CAN[wish](records, liars, one, other), False)
            return
        self.assertIs(CAN[wish](records, liars, one, other), True)
        self.assertIs(type(told), Records)
        for name in records.recorders():
            if name not in liars:
                self.assertEqual(told.row(name), records.row(name))
        self.assertTrue(told == Records(
            {name: records.weight(name) for name in records.recorders()}, records.share(),
            {name: told.row(name) for name in records.recorders()},
        ))
        self.assertIs(is_lie(records, liars, told), True)
        self.assertLessEqual({one, other}, set(told.things()))
        length = oracles.shortest(told, one, other)
        back = oracles.shortest(told, other, one)
        self.assertIs({"lead": length is not None, "bar": length is None, "part": None in (length, back)}[wish], True)


class ExamplesTest(LiarsCase):
    def test_examples_of_the_interface(self):
        records = self.records
        self.assertEqual(
            (can_put(records, ["cy"], "b", "a"), can_put(records, ["ann"], "b", "a"),
             can_keep(records, ["ann"], "a", "b"), can_lead(records, [], "a", "b")),
            (False, True, True, True),
        )
        self.assertEqual(
            (is_lie(records, ["ann"], leading(records, ["ann"], "b", "a")), barring(records, ["cy"], "a", "b")),
            (True, None),
        )
        self.assertEqual(
            (is_lie(records, ["ann"], records.with_row("ann", ["z"])), is_lie(records, [], records.with_row("ann", ["z"])),
             can_part(records, ["cy"], "a", "b")),
            (True, False, True),
        )
        self.assertEqual(
            (len(least_lot(records, "keep", "a", "b")), least_lot(records, "bar", "b", "a"),
             len(least_lot(records, "lead", "b", "a"))),
            (1, [], 1),
        )
        self.assert_given(NoThing, "a", can_lead, records, ["cy"], "a", "a")


class IsLieTest(LiarsCase):
    def test_rows_of_the_liars(self):
        told = self.records.with_row("ann", ["x", "y"]).with_row("cy", [])
        for liars in (["ann", "cy"], ["cy", "ann"], ("ann", "cy"), ["ann", "bob", "cy"], ["cy", "ann", "cy"]):
            self.assertIs(is_lie(self.records, liars, told), True)
        for liars in ([], (), ["ann"], ["cy", "cy"], ["bob"], ["ann", "bob"]):
            self.assertIs(is_lie(self.records, liars, told), False)

    def test_the_records_themselves(self):
        for liars in ([], ["ann"], ["ann", "bob", "cy"], ("cy",)):
            self.assertIs(is_lie(self.records, liars, self.records), True)
            self.assertIs(is_lie(self.records, liars, some_records()), True)
            self.assertIs(is_lie(self.records, liars, self.records.with_share(Ratio(4, 6))), True)

    def test_another_order_in_the_row_of_somebody_else(self):
        for told in (self.records.with_row("bob", ["b", "a"]), self.records.with_row("bob", ["a"]),
                     self.records.seen("bob", "c")):
            self.assertIs(is_lie(self.records, ["ann", "cy"], told), False)
            self.assertIs(is_lie(self.records, ["bob"], told), True)

    def test_another_share(self):
        for share in (Ratio(3, 4), 1):
            self.assertIs(is_lie(self.records, ["ann", "bob", "cy"], self.records.with_share(share)), False)

    def test_another_weight(self):
        rows = {name: self.records.row(name) for name in "ann bob cy".split()}
        for name in rows:
            other = Records({"ann": 1, "bob": 1, "cy": 1, name: Ratio(3, 2)}, TWO_THIRDS, rows)
            self.assertIs(is_lie(self.records, ["ann", "bob", "cy"], other), False)
            self.assertIs(is_lie(self.records, [name], other), False)

    def test_another_recorder(self):
        rows = {name: self.records.row(name) for name in "ann bob".split()}
        for weights in (
            {"ann": 1, "bob": 1}, {"ann": 1, "bob": 1, "dee": 1}, {"ann": 1, "bob": 1, "cy": 1, "dee": 1},
        ):
            self.assertIs(is_lie(self.records, ["ann", "bob", "cy"], Records(weights, TWO_THIRDS, rows)), False)

    def test_the_order_of_the_recorders_has_no_meaning(self):
        other = Records({"cy": 1, "bob": 1, "ann": Ratio(1)}, TWO_THIRDS, {"cy": ["b", "a"], "bob": ["a", "b"]})
        self.assertIs(is_lie(records=self.records, liars=["ann"], other=other), True)
        self.assertIs(is_lie(other=other, liars=["cy"], records=self.records), False)


class PutAndKeepTest(LiarsCase):
    def check(self, liars, one, other, share, put, keep):
        """Ann and bob have seen a ahead of b, bob has not seen b, and cy has not seen anything; they weigh 3 of 6."""
        weights = {"ann": 1, "bob": 2, "cy": 3}
        records = Records(weights, share, {"ann": ["a", "b"], "bob": ["a"]})
        self.assertIs(can_put(records, liars, one, other), put)
        self.assertIs(can_keep(records, liars, one, other), keep)

    def test_without_liars(self):
        for liars in ([], ()):
            self.check(liars, "a", "b", Ratio(10 ** 58 + 1, 2 * 10 ** 58), False, True)
            self.check(liars, "b", "a", Ratio(10 ** 58 + 1, 2 * 10 ** 58), False, True)

    def test_the_support_with_the_liars_just_at_the_share(self):
        self.check(["cy"], "a", "b", 1, True, True)
        self.check(["cy"], "b", "a", Ratio(2 * 10 ** 57, 3 * 10 ** 57), False, True)
        self.check(["bob", "cy"], "b", "a", Ratio(5, 6), True, True)
        self.check(["bob", "cy"], "b", "a", Ratio(5 * 10 ** 58 - 1, 6 * 10 ** 58), True, True)
        self.check(["bob", "cy"], "b", "a", Ratio(5 * 10 ** 58 + 1, 6 * 10 ** 58), False, True)

    def test_the_support_without_the_liars_just_at_the_share(self):
        records = Records({"ann": 3, "bob": 2, "cy": 1}, Ratio(5, 6), {"ann": ["a", "b"], "bob": ["a"], "cy": ["b"]})
        above = Ratio(5 * 10 ** 58 + 1, 6 * 10 ** 58)
        below = Ratio(5 * 10 ** 58 - 1, 6 * 10 ** 58)
        for liars in ([], ["cy"], ["cy", "cy"]):
            self.assertIs(can_keep(records, liars, "a", "b"), False)
            self.assertIs(can_keep(records.with_share(below), liars, "a", "b"), False)
            self.assertIs(can_keep(records.with_share(above), liars, "a", "b"), True)
        for liars in (["ann"], ["bob"], ["bob", "cy"]):
            self.assertIs(can_keep(records, liars, "a", "b"), True)

    def test_all_recorders(self):
        for one, other in ("ab", "ba"):
            self.check(["ann", "bob", "cy"], one, other, 1, True, True)
            self.check(("cy", "bob", "ann", "bob"), one, other, 1, True, True)

    def test_a_liar_twice_counts_once(self):
        self.check(["bob", "bob"], "b", "a", Ratio(3, 5), False, True)
        self.check(["bob", "cy", "bob"], "b", "a", Ratio(5 * 10 ** 58 + 1, 6 * 10 ** 58), False, True)

    def test_what_the_liars_have_seen_does_not_count(self):
        self.assertIs(can_put(self.records, ["ann", "bob"], "b", "a"), True)
        self.assertIs(can_keep(self.records, ["cy"], "a", "b"), False)
        self.assertIs(can_put(self.records, ["cy"], "a", "b"), True)


class TrialTest(LiarsCase):
    def test_against_all_rows_of_up_to_two_liars(self):
        found = {(wish, able): 0 for wish in CAN for able in (True, False)}
        for records in SMALL:
            for liars in oracles.groups(records):
                if len(liars) <= 2:
                    able = oracles.powers(records, liars, oracles.lies(records, liars))
                    for wish, (one, other) in itertools.product(CAN, pairs_of(records)):
                        self.assertIs(CAN[wish](records, liars, one, other), (one, other) in able[wish])
                        found[(wish, (one, other) in able[wish])] += 1
        self.assertGreater(min(found.values()), 4)

    def test_against_all_rows_of_one_liar_with_two_more_things(self):
        more = ("y", "z")
        for records in SMALL[:15]:
            for liar in records.recorders():
                able = oracles.powers(records, [liar], oracles.lies(records, [liar], more), more)
                for wish, (one, other) in itertools.product(CAN, pairs_of(records)):
                    self.assertIs(CAN[wish](records, [liar], one, other), (one, other) in able[wish])

    def test_against_each_single_row_that_all_liars_write(self):
        found = {(wish, able): 0 for wish in CAN for able in (True, False)}
        for records in [*LARGER[:14], ring_records()]:
            rows = oracles.all_rows(tuple(records.things()))
            for liars in oracles.groups(records)[::3]:
                able = oracles.powers(records, liars, [(row,) * len(liars) for row in (rows if liars else [()])])
                for wish, (one, other) in itertools.product(CAN, pairs_of(records)):
                    self.assertIs(CAN[wish](records, liars, one, other), (one, other) in able[wish])
                    found[(wish, (one, other) in able[wish])] += 1
        self.assertGreater(min(found.values()), 4)

    def test_told_records(self):
        for records in SMALL[::2] + LARGER[::4]:
            for liars in oracles.groups(records):
                for wish, (one, other) in itertools.product(TELLS, pairs_of(records)):
                    self.assert_told(records, liars, wish, one, other)

    def test_without_liars_the_rows_tell(self):
        for records in LARGER:
            for one, other in pairs_of(records):
                self.assertIs(can_put(records, [], one, other), is_ahead(records, one, other))
                self.assertIs(can_keep(records, [], one, other), not is_ahead(records, one, other))
                self.assertIs(can_lead(records, [], one, other), chain(records, one, other) is not None)
                self.assertIs(can_bar(records, (), one, other), chain(records, one, other) is None)
                self.assertIs(can_part(records, (), one, other), not merged(records, one, other))


class ToldTest(LiarsCase):
    def test_a_chain_of_several_things(self):
        # The pair a c has the support of bob alone, so that cy alone can't put it ahead.
        rows = {"ann": ["b", "c", "a"], "bob": ["a", "b", "c"], "cy": []}
        records = Records({"ann": 2, "bob": 2, "cy": 1}, Ratio(3, 5), rows)
        self.assertIs(can_lead(records, ["cy"], "a", "c"), True)
        told = leading(records, ["cy"], "a", "c")
        self.assertIs(is_ahead(told, "a", "b"), True)
        self.assert_told(records, ["cy"], "lead", "a", "c")
        five = ring_records()
        for liars in (["ann"], ["eve"], ["ann", "eve"], []):
            for one, other in pairs_of(five):
                for wish in TELLS:
                    self.assert_told(five, liars, wish, one, other)
        self.assertIs(can_put(five, ["eve"], "d", "c"), False)
        self.assertIs(can_lead(five, ["eve"], "d", "c"), True)

    def test_a_thing_that_only_a_liar_has_seen(self):
        five = ring_records()
        for wish in TELLS:
            for pair in ("za", "az", "zd", "dz"):
                self.assert_told(five, ["eve"], wish, *pair)
                self.assert_told(five, ["ann", "eve"], wish, *pair)
                self.assert_told(five, ["ann", "bob", "eve"], wish, *pair)
        self.assertIs(can_lead(five, ["eve"], "a", "z"), True)
        self.assertIs(can_bar(five, ["eve"], "a", "z"), False)
        self.assertIsNone(barring(five, ["eve"], "a", "z"))
        self.assertIs(can_lead(five, ["eve"], "z", "a"), False)
        self.assertIsNone(leading(five, ["eve"], "z", "a"))
        self.assertIs(can_lead(five, ["ann", "bob", "eve"], "z", "a"), True)

    def test_a_thing_that_nobody_but_all_liars_have_seen(self):
        records = Records({"ann": 1, "bob": 1}, 1, {"ann": ["a", "b"], "bob": ["b", "c", "a"]})
        for wish, (one, other) in itertools.product(TELLS, pairs_of(records)):
            self.assert_told(records, ["ann", "bob"], wish, one, other)
            self.assertIsNotNone(TELLS[wish](records, ["bob", "ann"], one, other))

    def test_barring_what_others_make_a_chain(self):
        five = ring_records()
        self.assertIs(can_bar(five, ["ann"], "a", "c"), True)
        self.assertIs(can_bar(five, ["eve"], "a", "c"), False)
        self.assertIsNone(barring(five, ["eve"], "a", "c"))
        self.assertIsNone(parting(five, ["eve"], "a", "c"))
        self.assertIs(can_part(five, [], "a", "c"), False)
        self.assertIs(can_part(five, ["dee"], "a", "c"), True)

    def test_parting_in_the_one_way_that_there_is(self):
        # Ann and bob alone make a chain from a to b, so that the liar can bar only the chain back.
        records = Records({"ann": 1, "bob": 1, "cy": 1}, TWO_THIRDS, {"ann": ["a", "b"], "bob": ["a", "b"], "cy": ["c"]})
        for one, other in ("ab", "ba"):
            self.assert_told(records, ["cy"], "part", one, other)
            self.assertIs(can_part(records, ["cy"], one, other), True)

    def test_no_liars(self):
        for wish, (one, other) in itertools.product(TELLS, ("ab", "ba")):
            told = TELLS[wish](self.records, [], one, other)
            self.assertTrue(told is None or told == self.records)
        self.assertIsNotNone(leading(self.records, (), "a", "b"))
        self.assertIsNone(leading(self.records, (), "b", "a"))
        self.assertIsNone(barring(self.records, [], "a", "b"))
        self.assertIsNotNone(barring(self.records, [], "b", "a"))
        self.assertIsNotNone(parting(self.records, [], "a", "b"))

    def test_tuples_repetitions_and_names_of_arguments(self):
        for wish in TELLS:
            found = TELLS[wish](other="a", one="b", liars=("ann", "bob", "ann"), records=self.records)
            self.assertTrue(found == TELLS[wish](self.records, ["ann", "bob"], "b", "a"))
        for wish in CAN:
            self.assertIs(CAN[wish](other="a", one="b", liars=("ann", "bob", "ann"), records=self.records), True)

    def test_the_liars_are_not_changed(self):
        liars = ["bob", "ann", "bob"]
        for function in FUNCTIONS:
            function(self.records, liars, "a", "b")
        is_lie(self.records, liars, self.records)
        self.assertEqual(liars, ["bob", "ann", "bob"])


class LeastLotTest(LiarsCase):
    def test_against_a_trial_of_all_lists(self):
        for records in SMALL + LARGER[:10]:
            for wish, (one, other) in itertools.product(CAN, pairs_of(records)):
                able = [liars for liars in oracles.groups(records) if CAN[wish](records, liars, one, other)]
                found = least_lot(records, wish, one, other)
                self.assertIn(found, able)
                self.assertEqual(
                    oracles.weight_of(records, found), min(oracles.weight_of(records, liars) for liars in able)
                )

    def test_the_weight_counts_and_not_the_heads(self):
        rows = {"ann": ["a", "b"], "bob": ["a", "b"], "cy": ["a"], "dee": ["b", "a"]}
        records = Records({"ann": 3, "bob": 1, "cy": 1, "dee": 1}, TWO_THIRDS, rows)
        for wish, pair, wanted in (
            ("keep", "ab", ["bob", "cy"]), ("bar", "ab", ["bob", "cy"]), ("put", "ba", ["ann"]), ("lead", "ba", ["ann"]),
            ("part", "ab", []), ("part", "ba", []), ("keep", "ba", []), ("put", "ab", []),
        ):
            found = least_lot(records, wish, *pair)
            self.assertIs(type(found), list)
            self.assertEqual(found, wanted, wish)

    def test_several_recorders_ascending(self):
        rows = {"dee": ["a"], "cy": ["a"], "bob": ["a", "b"], "ann": ["a", "b"]}
        records = Records({name: 1 for name in rows}, Ratio(51, 100), rows)
        for wish in ("keep", "bar"):
            found = least_lot(records, wish, "a", "b")
            self.assertEqual((len(found), found), (2, sorted(found)))
        for wish in ("put", "lead"):
            found = least_lot(records, wish, "b", "a")
            self.assertEqual((len(found), found), (3, sorted(found)))

    def test_nobody_need_lie(self):
        for wish, pair in (("put", "ab"), ("keep", "ba"), ("lead", "ab"), ("bar", "ba"), ("part", "ab"), ("part", "ba")):
            found = least_lot(self.records, wish, *pair)
            self.assertEqual(found, [])
            found.append("x")
            self.assertEqual(least_lot(self.records, wish, *pair), [])

    def test_all_must_lie(self):
        records = Records({"ann": 1, "bob": 1}, 1, {"ann": ["a", "b"], "bob": ["a", "b"]})
        for wish in ("put", "lead"):
            self.assertEqual(least_lot(records=records, wish=wish, one="b", other="a"), ["ann", "bob"])


class ErrorsTest(LiarsCase):
    def test_no_recorder_before_no_thing(self):
        for value in [*odd_values(), "a", "dee", "ann "]:
            for function in FUNCTIONS:
                for one, other in (("a", "b"), ("x", None), ("a", "a")):
                    self.assert_given(NoRecorder, value, function, self.records, [value], one, other)
                    self.assert_given(NoRecorder, value, function, self.records, ["ann", value, "x", 5], one, other)
                    self.assert_given(NoRecorder, value, function, self.records, ("cy", "cy", value), one, other)
            self.assert_given(NoRecorder, value, is_lie, self.records, ["ann", value, "x"], self.records)
            self.assert_given(NoRecorder, value, is_lie, self.records, (value,), self.records.with_share(1))

    def calls(self):
        """All functions with two things that may lack."""
        found = [lambda one, other, call=call: call(self.records, ["ann"], one, other) for call in FUNCTIONS]
        found += [lambda one, other, call=call: call(self.records, [], one, other) for call in FUNCTIONS]
        return found + [lambda one, other, wish=wish: least_lot(self.records, wish, one, other) for wish in CAN]

    def test_no_thing(self):
        for value in [*odd_values(), "c", "ann", "ab", ["a"], ("a",)]:
            for call in self.calls():
                self.assert_given(NoThing, value, call, value, "b")
                self.assert_given(NoThing, value, call, "a", value)
                self.assert_given(NoThing, value, call, value, "x")
                self.assert_given(NoThing, value, call, value, value)

    def test_the_second_thing_the_same_as_the_first_one(self):
        for call in self.calls():
            for thing in "ab":
                self.assert_given(NoThing, thing, call, thing, thing)

    def test_a_thing_that_stands_in_the_row_of_a_liar_alone_is_a_thing(self):
        records = self.records.seen("cy", "c")
        for function in FUNCTIONS:
            function(records, ["cy"], "a", "c")
            self.assert_given(NoThing, "d", function, records, ["cy"], "c", "d")

    def test_bad_wish_before_no_thing(self):
        for value in [*odd_values(), "Put", "puts", "pu", "put ", ["put"], ("put",), {"put": 1}, "can_put", "parting"]:
            for one, other in (("a", "b"), ("x", None), ("a", "a")):
                self.assert_given(BadWish, value, least_lot, self.records, value, one, other)


class LimitsTest(LiarsCase):
    def test_great_numbers_many_recorders_and_many_things(self):
        edge = 10 ** 59
        things = "abcdefghijkl"
        rows = {name: list(things[at:] + things[:at]) for at, name in enumerate(oracles.RECORDERS)}
        weights = {name: Ratio(edge + 7 * at * at, edge // 3 + at) for at, name in enumerate(oracles.RECORDERS)}
        records = Records(weights, Ratio(5 * edge // 8 + 1, edge), rows)
        for one, other in (("a", "l"), ("l", "a"), ("f", "c")):
            for wish in CAN:
                lot = least_lot(records, wish, one, other)
                self.assertIs(CAN[wish](records, lot, one, other), True)
                for gone in lot:
                    self.assertIs(CAN[wish](records, [name for name in lot if name != gone], one, other), False)
            for wish in TELLS:
                self.assert_told(records, ["hal", "bob"], wish, one, other)
