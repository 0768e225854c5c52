"""Points 2, 3, 5 to 8 and 21 to 23: how long rings can be."""

import itertools
import random

from fairbatches.ahead import is_ring
from fairbatches.batches import batches
from fairbatches.errors import BadCount, BadName, BadRing, BadShare, BadWeight, NoWay
from fairbatches.ratios import Ratio
from fairbatches.records import Records
from fairbatches.rings import can_be_batch, is_parting, least_ring, lots, ring_rows, ring_share
from tests import oracles
from tests.support import ErrorCase, odd_lists, odd_values

TWO_THIRDS = Ratio(2, 3)
THREE = {"ann": 1, "bob": 1, "cy": 1}
FOUR = {"ann": 2, "bob": 2, "cy": 1, "dee": 1}
SHARES = [Ratio(51, 100), Ratio(4, 7), Ratio(3, 5), Ratio(5, 8), TWO_THIRDS, Ratio(7, 10), Ratio(3, 4), Ratio(4, 5), 1]
THINGS = list("abcdefghijkl")


def many_weights(seed, many, most):
    """Many different weights of some recorders, the same ones for the same seed."""
    chance = random.Random(seed)
    return [
        {name: chance.choice([1, 1, 2, 3, 4, Ratio(1, 2), Ratio(5, 3)]) for name in oracles.RECORDERS[:size]}
        for size in [chance.randint(1, most) for _ in range(many)]
    ]


def small_weights():
    """Weights of a few recorders, with few ways to put them into lots."""
    return many_weights(4, 25, 5)


def support_of_pairs(row, things):
    """Which pairs of neighbours in a ring a row supports."""
    following = things[1:] + things[:1]
    return tuple(
        one in row and (other not in row or row.index(one) < row.index(other)) for one, other in zip(things, following)
    )


def a_ring_can_come_about(weights, share, things):
    """Whether there are rows with which things are a ring, by trying all rows of them that there are."""
    rows = [row for size in range(len(things) + 1) for row in itertools.permutations(things, size)]
    kinds = sorted({support_of_pairs(row, things) for row in rows})
    parts = [oracles.as_fraction(weight) for weight in weights.values()]
    need = sum(parts) * oracles.as_fraction(share)
    for chosen in itertools.product(kinds, repeat=len(parts)):
        columns = zip(*chosen)
        if all(sum(part for part, hit in zip(parts, column) if hit) >= need for column in columns):
            return True
    return False


class ExamplesTest(ErrorCase):
    def test_examples_of_the_interface(self):
        three = {"ann": 1, "bob": 1, "cy": 1}
        self.assertEqual(
            (least_ring(three, Ratio(2, 3)), lots(three, Ratio(2, 3), 2),
             is_parting(three, Ratio(2, 3), 4, [["bob"], [], ["ann"], ["cy"]])),
            (3, None, True),
        )
        self.assertEqual(
            (is_ring(ring_rows(three, Ratio(2, 3), ["a", "b", "c"]), ["a", "b", "c"]), ring_share(three, 5).text(),
             can_be_batch(three, Ratio(2, 3), 2)),
            (True, "2/3", False),
        )
        self.assertEqual(
            (least_ring({"ann": 2, "bob": 1}, Ratio(2, 3)), ring_share({"ann": 2, "bob": 1}, 9),
             least_ring({"ann": 2, "bob": 2, "cy": 1, "dee": 1}, Ratio(2, 3))),
            (None, None, 3),
        )
        self.error_of(NoWay, ring_rows, three, Ratio(3, 4), ["a", "b", "c"])


class LotsTest(ErrorCase):
    def check_lots(self, weights, share, count):
        """There are lots just if some way to put the recorders into so many lots is a parting, and they are one."""
        found = lots(weights, share, count)
        if not oracles.there_is_a_parting(weights, share, count):
            self.assertIsNone(found)
            return
        self.assertEqual([type(part) for part in [found, *found]], [list] * (count + 1))
        self.assertEqual(sorted(name for lot in found for name in lot), sorted(weights))
        whole = sum(oracles.as_fraction(weight) for weight in weights.values())
        for lot in found:
            load = sum(oracles.as_fraction(weights[name]) for name in lot)
            self.assertLessEqual(load, whole * (1 - oracles.as_fraction(share)))
        self.assertIs(is_parting(weights, share, count, found), True)

    def test_against_the_words_of_the_document(self):
        for weights in small_weights():
            for share in SHARES:
                for count in (1, 2, 3, 4):
                    self.check_lots(weights, share, count)

    def test_weights_that_just_fit_and_just_do_not(self):
        just = Ratio(10 ** 59 * 2 + 1, 10 ** 59 * 3)
        for share, wanted in ((TWO_THIRDS, True), (just, False), (Ratio(10 ** 59 * 2 - 1, 10 ** 59 * 3), True)):
            self.assertIs(lots(THREE, share, 3) is not None, wanted)
            self.assertIs(lots(FOUR, share, 3) is not None, wanted)
            self.assertIs(is_parting(THREE, share, 3, [["ann"], ["bob"], ["cy"]]), wanted)
            self.assertIs(is_parting(FOUR, share, 3, [["ann"], ["bob"], ["cy", "dee"]]), wanted)
            self.assertEqual(least_ring(THREE, share), 3 if wanted else None)
        self.assertEqual(least_ring(FOUR, just), None)

    def test_lots_that_no_simple_filling_finds(self):
        # Only 5 + 2 + 2, 4 + 3 + 2 and 9 fill the three lots of 9.
        weights = {"a": 5, "b": 4, "c": 3, "d": 2, "e": 2, "f": 2, "g": 9}
        self.assertEqual(least_ring(weights, TWO_THIRDS), 3)
        self.assertIs(is_parting(weights, TWO_THIRDS, 3, lots(weights, TWO_THIRDS, 3)), True)

    def test_more_lots_than_recorders(self):
        for count in (3, 4, 10, 60):
            found = lots(THREE, TWO_THIRDS, count)
            self.assertEqual(len(found), count)
            self.assertEqual(sorted(lot for lot in found if lot), [["ann"], ["bob"], ["cy"]])
            self.assertIs(is_parting(THREE, TWO_THIRDS, count, found), True)

    def test_there_are_no_lots(self):
        for count in (1, 2, 3, 60):
            self.assertIsNone(lots({"ann": 1}, TWO_THIRDS, count))
            self.assertIsNone(lots(THREE, 1, count))
            self.assertIsNone(lots({"ann": 2, "bob": 1}, TWO_THIRDS, count))

    def test_new_lists_on_each_call(self):
        found = lots(THREE, TWO_THIRDS, 5)
        for lot in found:
            lot.append("x")
        self.assertIs(is_parting(THREE, TWO_THIRDS, 5, lots(THREE, TWO_THIRDS, 5)), True)

    def test_arguments_by_name_and_unchanged(self):
        weights = {"cy": 1, "ann": 1, "bob": 1}
        self.assertEqual(len(lots(count=3, share=TWO_THIRDS, weights=weights)), 3)
        self.assertEqual(least_ring(share=TWO_THIRDS, weights=weights), 3)
        value = [["ann"], ["bob"], ["cy"]]
        self.assertIs(is_parting(value=value, count=3, share=TWO_THIRDS, weights=weights), True)
        self.assertIs(can_be_batch(count=3, share=TWO_THIRDS, weights=weights), True)
        self.assertEqual(list(weights.items()), [("cy", 1), ("ann", 1), ("bob", 1)])
        self.assertEqual(value, [["ann"], ["bob"], ["cy"]])


class IsPartingTest(ErrorCase):
    def check(self, count, value, wanted):
        """Look at a value, and at the same one with tuples."""
        with self.subTest(count=count, value=value):
            for same in (value, tuple(tuple(lot) for lot in value), [tuple(lot) for lot in value]):
                self.assertIs(is_parting(FOUR, TWO_THIRDS, count, same), wanted)

    def test_partings(self):
        for value in (
            [["ann"], ["bob"], ["cy", "dee"]], [["dee", "cy"], ["bob"], ["ann"]], [["ann"], ["bob"], ["cy"], ["dee"]],
            [["ann"], [], ["bob"], ["cy", "dee"]], [[], ["cy"], ["ann"], [], ["bob"], ["dee"]],
        ):
            self.check(len(value), value, True)
            self.check(len(value) + 1, value + [[]], True)

    def test_no_partings(self):
        for value in (
            [["ann", "cy"], ["bob"], ["dee"]], [["ann", "bob"], ["cy"], ["dee"]], [["ann", "bob", "cy", "dee"]],
            [["ann"], ["bob"], ["cy"]], [["ann"], ["bob"], ["dee"]], [[], [], []], [["ann"], ["bob"], ["cy", "cy"]],
            [["ann"], ["bob"], ["cy", "dee", "ann"]], [["ann"], ["ann"], ["cy", "dee"]],
            [["ann"], ["bob"], ["cy"], ["dee"], ["dee"]], [["ann"], ["bob"], ["cy", "dee"], ["ann"]],
            [["ann"], ["bob"], ["cy", "eve"]], [["ann"], ["bob"], ["cy", "dee"], ["eve"]], [["ann"], ["bob"], ["cy", ""]],
        ):
            self.check(len(value), value, False)

    def test_another_number_of_lots(self):
        value = [["ann"], ["bob"], ["cy", "dee"]]
        for count in (1, 2, 4, 60):
            self.check(count, value, False)
        self.check(3, value + [[]], False)
        self.check(4, value + [[]], True)

    def test_values_that_are_no_lists_of_lists_of_recorders(self):
        for value in [
            *odd_lists(), "ann", ["ann", "bob", "cy"], [["ann"], ["bob"], "cy"], [["ann"], ["bob"], {"cy": 1, "dee": 1}],
            [["ann"], ["bob"], ["cy", ["dee"]]], [["ann"], ["bob"], [["cy", "dee"]]], [["ann"], ["bob"], ["cy", None]],
            [["ann"], ["bob"], None], {("ann",): 1, ("bob",): 2, ("cy", "dee"): 3}, [["ann"], ["bob"], ["cy", "dee", 1]],
            [["ann"], ["bob"], ["cy", "dee", True]], [["ann"], ["bob"], ["cy", {}]], [["ann"], ["bob"], ["cy", Ratio(1)]],
        ]:
            with self.subTest(value=value):
                for count in (1, 2, 3, 4):
                    self.assertIs(is_parting(FOUR, TWO_THIRDS, count, value), False)

    def test_against_the_words_of_the_document(self):
        for weights in small_weights()[:12]:
            for share in SHARES[:5]:
                for places in itertools.product(range(3), repeat=len(weights)):
                    value = [[name for name, at in zip(weights, places) if at == place] for place in range(3)]
                    whole = sum(oracles.as_fraction(weight) for weight in weights.values())
                    most = whole * (1 - oracles.as_fraction(share))
                    wanted = max(oracles.loads(weights, places, 3)) <= most
                    self.assertIs(is_parting(weights, share, 3, value), wanted)


class LeastRingTest(ErrorCase):
    def test_against_the_words_of_the_document(self):
        for weights in small_weights():
            for share in SHARES:
                counts = [count for count in range(1, 6) if oracles.there_is_a_parting(weights, share, count)]
                self.assertEqual(least_ring(weights, share), counts[0] if counts else None)

    def test_it_is_an_integer_of_at_least_three(self):
        for weights in many_weights(5, 60, 8):
            for share in SHARES:
                found = least_ring(weights, share)
                if found is not None:
                    self.assertIs(type(found), int)
                    self.assertLessEqual(3, found)

    def test_greater_weights_of_one_recorder(self):
        for heavy, wanted in ((1, 4), (2, 4), (3, 3), (Ratio(7, 2), None), (4, None)):
            weights = {"ann": heavy, "bob": 2, "cy": 2, "dee": 1, "eve": 1}
            self.assertEqual(least_ring(weights, TWO_THIRDS), wanted)

    def test_many_lots(self):
        eight = {name: 1 for name in oracles.RECORDERS}
        for share, wanted in ((Ratio(7, 8), 8), (Ratio(6, 8), 4), (Ratio(5, 8), 3), (Ratio(57, 64), None)):
            self.assertEqual(least_ring(eight, share), wanted)


class RingRowsTest(ErrorCase):
    def check_rows(self, weights, share, things):
        """The records have these weights and this share, and the things are a ring in them."""
        records = ring_rows(weights, share, things)
        self.assertIs(type(records), Records)
        self.assertEqual(records.recorders(), sorted(weights))
        for name, weight in weights.items():
            self.assertTrue(records.weight(name) == weight)
        self.assertTrue(records.share() == share)
        self.assertIs(is_ring(records, things), True)
        ahead = oracles.pairs(records)
        self.assertLessEqual(set(zip(things, things[1:] + things[:1])), ahead)

    def test_against_the_words_of_the_document(self):
        for weights in small_weights():
            for share in SHARES:
                for count in (2, 3, 4, 5):
                    if oracles.there_is_a_parting(weights, share, count):
                        self.check_rows(weights, share, THINGS[:count])
                    else:
                        self.error_of(NoWay, ring_rows, weights, share, THINGS[:count])

    def test_against_all_rows(self):
        for weights in ({"a": 1}, {"a": 1, "b": 1}, THREE, {"a": 2, "b": 1, "c": 1}, {"a": 3, "b": 2, "c": 2}, FOUR):
            for share in (Ratio(51, 100), Ratio(4, 7), TWO_THIRDS, Ratio(3, 4), 1):
                for count in (2, 3, 4):
                    wanted = a_ring_can_come_about(weights, share, THINGS[:count])
                    self.assertIs(lots(weights, share, count) is not None, wanted)
                    if not wanted:
                        self.error_of(NoWay, ring_rows, weights, share, THINGS[:count])

    def test_more_things_than_recorders(self):
        for count in range(3, 13):
            self.check_rows(THREE, TWO_THIRDS, THINGS[:count][::-1])
            self.check_rows(FOUR, TWO_THIRDS, THINGS[:count])

    def test_more_things_than_lots_may_be(self):
        things = [one + other for one in "abcdefghi" for other in "abcdefghi"]
        self.check_rows(THREE, TWO_THIRDS, things)

    def test_the_order_of_the_things(self):
        for things in itertools.permutations("abcd"):
            self.check_rows(THREE, TWO_THIRDS, list(things))
        records = ring_rows(THREE, TWO_THIRDS, ("c", "a", "b"))
        self.assertIs(is_ring(records, ["c", "a", "b"]), True)
        self.assertIs(is_ring(records, ["c", "b", "a"]), False)
        self.assertIs(type(records.row("ann")), list)

    def test_names_of_eight_letters(self):
        self.check_rows(THREE, TWO_THIRDS, ["abcdefgh", "a", "abcdefgi"])

    def test_bad_ring(self):
        for value in [
            *odd_lists(), "abc", ["a"], ("a",), ["a", "a"], ["a", "b", "a"], ["a", "b", ""], ["a", "b", "C"],
            ["a", "b", None], ["a", "b", ["c"]], ["a", "b", "ninechars"], [["a"], ["b"], ["c"]], {"a": 1, "b": 1, "c": 1},
        ]:
            with self.subTest(value=value):
                self.assert_given(BadRing, value, ring_rows, THREE, TWO_THIRDS, value)

    def test_bad_ring_before_no_way(self):
        for value in (["a"], ["a", "b", "a"], None, []):
            self.assert_given(BadRing, value, ring_rows, THREE, 1, value)
        self.error_of(NoWay, ring_rows, THREE, 1, ["a", "b", "c"])
        self.error_of(NoWay, ring_rows, THREE, TWO_THIRDS, ["a", "b"])
        self.error_of(NoWay, ring_rows, {"ann": 2, "bob": 1}, TWO_THIRDS, THINGS)

    def test_arguments_by_name_and_unchanged(self):
        weights = dict(THREE)
        things = ["a", "b", "c"]
        records = ring_rows(things=things, share=TWO_THIRDS, weights=weights)
        weights["ann"] = 5
        things.append("d")
        self.assertIs(is_ring(records, ["a", "b", "c"]), True)
        self.assertEqual((records.whole().text(), records.things()), ("3", ["a", "b", "c"]))


class BatchTest(ErrorCase):
    def test_counts(self):
        for weights, share, least in (
            (THREE, TWO_THIRDS, 3), (FOUR, TWO_THIRDS, 3), (THREE, Ratio(3, 4), 61), (THREE, 1, 61), ({"ann": 1}, 1, 61),
            ({name: 1 for name in oracles.RECORDERS}, Ratio(7, 8), 8), ({"ann": 2, "bob": 1}, Ratio(51, 100), 61),
            ({"a": 1, "b": 1, "c": 1, "d": 1}, Ratio(3, 4), 4),
        ):
            for count in range(1, 61):
                self.assertIs(can_be_batch(weights, share, count), count == 1 or count >= least)

    def test_against_all_rows(self):
        things = ["a", "b", "c"]
        rows = [row for size in range(4) for row in itertools.permutations(things, size)]
        for weights, share in ((THREE, TWO_THIRDS), (THREE, Ratio(3, 4)), ({"a": 2, "b": 1, "c": 1}, Ratio(51, 100))):
            sizes = set()
            for chosen in itertools.combinations_with_replacement(rows, 3):
                records = Records(weights, share, dict(zip(weights, chosen)))
                sizes.update(len(batch) for batch in batches(records))
            for count in (1, 2, 3):
                self.assertIs(can_be_batch(weights, share, count), count in sizes)


class RingShareTest(ErrorCase):
    def test_against_the_words_of_the_document(self):
        for weights in small_weights():
            whole = sum(oracles.as_fraction(weight) for weight in weights.values())
            for count in (1, 2, 3, 4):
                share = 1 - oracles.least_load(weights, count) / whole
                if 2 * share <= 1:
                    self.assertIsNone(ring_share(weights, count))
                else:
                    self.assert_ratio(ring_share(weights, count), str(share))

    def test_the_greatest_share(self):
        # The share itself still does, and a share just above it does not.
        found = [(weights, count) for weights in many_weights(6, 40, 8) for count in (3, 4, 5, 8, 12)]
        for weights, count in found:
            share = ring_share(weights, count)
            if share is None:
                self.error_of(NoWay, ring_rows, weights, Ratio(10 ** 59 + 1, 2 * 10 ** 59), THINGS[:count])
                continue
            above = share + Ratio(1, 10 ** 59)
            self.assertIs(is_ring(ring_rows(weights, share, THINGS[:count]), THINGS[:count]), True)
            self.error_of(NoWay, ring_rows, weights, above, THINGS[:count])
            self.assertIsNotNone(lots(weights, share, count))
            self.assertIsNone(lots(weights, above, count))
            self.assertIs(can_be_batch(weights, share, count), True)
            self.assertIs(can_be_batch(weights, above, count), False)

    def test_rings_of_one_and_two_things(self):
        for weights in many_weights(7, 20, 6):
            self.assertIsNone(ring_share(weights, 1))
            self.assertIsNone(ring_share(weights, 2))

    def test_just_one_half_is_no_share(self):
        self.assertIsNone(ring_share({"ann": 2, "bob": 1, "cy": 1}, 9))
        self.assert_ratio(ring_share({"ann": Ratio(2 * 10 ** 58 - 1, 10 ** 58), "bob": 1, "cy": 1}, 9), str(
            1 - oracles.as_fraction(Ratio(2 * 10 ** 58 - 1, 4 * 10 ** 58 - 1))
        ))

    def test_values(self):
        for weights, count, text in (
            (THREE, 3, "2/3"), (THREE, 60, "2/3"), (FOUR, 3, "2/3"), (FOUR, 4, "2/3"),
            ({"a": 1, "b": 1, "c": 1, "d": 1}, 3, None), ({"a": 1, "b": 1, "c": 1, "d": 1}, 4, "3/4"),
            ({"a": Ratio(1, 2), "b": Ratio(1, 3), "c": Ratio(1, 5), "d": Ratio(1, 7)}, 4, "142/247"),
            ({name: 1 for name in oracles.RECORDERS}, 7, "3/4"), ({name: 1 for name in oracles.RECORDERS}, 8, "7/8"),
        ):
            found = ring_share(count=count, weights=weights)
            self.assertEqual(None if found is None else found.text(), text)


class ErrorsTest(ErrorCase):
    def calls(self):
        """All functions, each with weights and a share, and with a last argument that is right."""
        return [
            lambda weights, share: lots(weights, share, 3),
            lambda weights, share: is_parting(weights, share, 3, [["ann"], [], []]),
            least_ring,
            lambda weights, share: ring_rows(weights, share, ["a", "b", "c"]),
            lambda weights, share: can_be_batch(weights, share, 1),
        ]

    def wrong_calls(self):
        """All functions, each with weights and a share, and with a last argument that is wrong."""
        return [
            lambda weights, share: lots(weights, share, 0),
            lambda weights, share: is_parting(weights, share, None, None),
            lambda weights, share: ring_rows(weights, share, ["a"]),
            lambda weights, share: can_be_batch(weights, share, 61),
        ]

    def test_bad_name(self):
        for key in [None, True, False, 0, 3, "", "Ann", "a b", "ninechars", "an1", (), ("ann",), (1, None)]:
            with self.subTest(key=key):
                for call in self.calls() + self.wrong_calls():
                    self.assert_given(BadName, key, call, {key: 1}, TWO_THIRDS)
                    self.assert_given(BadName, key, call, {"ann": 0, key: None, "B": 1}, None)
                for count in (3, 0, None):
                    self.assert_given(BadName, key, ring_share, {"ann": 0, key: None, "B": 1}, count)

    def test_bad_weight(self):
        for weight in [None, True, False, 0, -1, Ratio(0), Ratio(-1, 2), "", "1", [], [1], (), (1,), {}, {"ann": 1}]:
            with self.subTest(weight=weight):
                for call in self.calls() + self.wrong_calls():
                    self.assert_given(BadWeight, weight, call, {"ann": weight}, TWO_THIRDS)
                    self.assert_given(BadWeight, weight, call, {"bob": 1, "ann": weight, "cy": -5}, None)
                for count in (3, 0, None):
                    self.assert_given(BadWeight, weight, ring_share, {"bob": 1, "ann": weight, "cy": -5}, count)

    def test_bad_share(self):
        for share in [*odd_values(), 2, Ratio(10 ** 59 + 1, 10 ** 59), Ratio(1, 3), "2/3", [TWO_THIRDS], (1,)]:
            with self.subTest(share=share):
                for call in self.calls() + self.wrong_calls():
                    self.assert_given(BadShare, share, call, THREE, share)

    def test_bad_count(self):
        for count in [*odd_values(), 61, 10 ** 60, -10, Ratio(3), Ratio(60), "3", [3], (3,), {3: 3}]:
            if count == 7:
                continue
            with self.subTest(count=count):
                self.assert_given(BadCount, count, lots, THREE, TWO_THIRDS, count)
                self.assert_given(BadCount, count, lots, THREE, 1, count)
                self.assert_given(BadCount, count, is_parting, THREE, TWO_THIRDS, count, [["ann"], ["bob"], ["cy"]])
                self.assert_given(BadCount, count, is_parting, THREE, TWO_THIRDS, count, None)
                self.assert_given(BadCount, count, can_be_batch, THREE, TWO_THIRDS, count)
                self.assert_given(BadCount, count, ring_share, THREE, count)

    def test_counts_at_the_edges(self):
        for count in (1, 60):
            lots(THREE, TWO_THIRDS, count)
            is_parting(THREE, TWO_THIRDS, count, [])
            can_be_batch(THREE, TWO_THIRDS, count)
            ring_share(THREE, count)

    def test_the_first_wrong_item_of_a_dict(self):
        for call in self.calls():
            self.assert_given(BadName, "Z", call, {"z": 1, "Z": 1, "A": 1}, TWO_THIRDS)
            self.assert_given(BadWeight, -2, call, {"z": -2, "b": 0, "a": -1}, TWO_THIRDS)


class LimitsTest(ErrorCase):
    def test_great_numbers_and_many_recorders(self):
        edge = 10 ** 59
        weights = {name: Ratio(edge + 7 * at * at, edge // 3 + at) for at, name in enumerate(oracles.RECORDERS)}
        for count, least in ((3, 3), (4, 4), (7, 7), (8, 8), (12, 8)):
            share = ring_share(weights, count)
            self.assertEqual(least_ring(weights, share), least)
            self.assertIsNone(lots(weights, share + Ratio(1, 10 ** 600), count))
