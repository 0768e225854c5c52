"""Points 2 to 8, 28 and 29: which rings known liars can bring about."""

import itertools

from fairbatches.ahead import is_ring
from fairbatches.errors import BadCount, BadRing, NoRecorder, NoThing
from fairbatches.liars import is_lie
from fairbatches.ratios import Ratio
from fairbatches.records import Records
from fairbatches.ringliars import can_ring, joining_ring, least_ringers, ringing
from fairbatches.rings import lots
from tests import oracles
from tests.support import ErrorCase, odd_lists, odd_values

TWO_THIRDS = Ratio(2, 3)
THREE = {"ann": 1, "bob": 1, "cy": 1}
SMALL = oracles.many_records(31, 80, 4, ["a", "b", "c"])
LARGER = oracles.many_records(32, 40, 5, ["a", "b", "c", "d", "e"])
MOST = oracles.many_records(33, 12, 8, ["a", "b", "c", "d", "e"])


def some_records(share=TWO_THIRDS):
    """Three recorders, two of whom go round."""
    return Records(THREE, share, {"ann": ["a", "b", "c"], "bob": ["b", "c", "a"], "cy": ["c", "b", "a"]})


def turned_records():
    """Three recorders with the ring a, b and c as it is."""
    return Records(THREE, TWO_THIRDS, {"ann": ["a", "b", "c"], "bob": ["b", "c", "a"], "cy": ["c", "a", "b"]})


def spares(records, liars, things):
    """What each pair of neighbours has more than it needs if all liars support it."""
    whole = oracles.weight_of(records, records.recorders())
    found = []
    for one, other in zip(things, [*things[1:], things[0]]):
        support = oracles.weight_of(records, [
            name for name in records.recorders()
            if name in liars or (one, other) in oracles.supported(tuple(records.row(name)), tuple(records.things()))
        ])
        found.append(support - oracles.as_fraction(records.share()) * whole)
    return found


def there_are_lots(records, liars, things):
    """Whether the liars can be parted into lots as the main statement says, by a trial of all ways."""
    spare = spares(records, liars, things)
    if min(spare) < 0:
        return False
    weights = {name: records.weight(name) for name in liars}
    for places in itertools.product(range(len(things)), repeat=len(liars)):
        if all(load <= most for load, most in zip(oracles.loads(weights, places, len(things)), spare)):
            return True
    return False


def all_rings(things, most):
    """All lists of two to so many of the things."""
    return [list(ring) for size in range(2, most + 1) for ring in itertools.permutations(things, size)]


class RingCase(ErrorCase):
    def setUp(self):
        self.records = some_records()

    def tearDown(self):
        self.assertTrue(self.records == some_records())

    def assert_rings(self, wanted, records, liars, things):
        """The liars can make the things a ring, or not; the told records are a lie of theirs with the ring."""
        self.assertIs(can_ring(records, liars, things), wanted)
        told = ringing(records, liars, things)
        if not wanted:
            self.assertIsNone(told)
            return
        self.assertIs(type(told), Records)
        self.assertIs(is_lie(records, liars, told), True)
        ahead = oracles.pairs(told)
        self.assertLessEqual(set(zip(things, [*things[1:], things[0]])), ahead)
        self.assertIs(is_ring(told, things), True)


class ExamplesTest(RingCase):
    def test_examples_of_the_interface(self):
        records = self.records
        self.assertEqual(
            (can_ring(records, [], ["a", "b", "c"]), can_ring(records, ["cy"], ["a", "b", "c"]),
             can_ring(records, ["bob"], ["a", "b", "c"])),
            (False, True, False),
        )
        self.assertEqual(
            (is_ring(ringing(records, ["cy"], ["a", "b", "c"]), ["a", "b", "c"]),
             joining_ring(records, ["cy"], "b", "a", 3), least_ringers(records, ["a", "b", "c"])),
            (True, ["b", "c", "a"], ["cy"]),
        )
        self.assertEqual((joining_ring(records, ["bob"], "a", "b", 5), least_ringers(records, ["a", "b"])), (None, None))
        self.assert_given(BadRing, ["a", "z"], can_ring, records, [], ["a", "z"])


class CanRingTest(RingCase):
    def test_two_things_are_never_a_ring(self):
        for records in [self.records, *SMALL[:20], *MOST]:
            for liars in ([], records.recorders()[:1], records.recorders()[:3], records.recorders()):
                for things in itertools.permutations(records.things(), 2):
                    self.assert_rings(False, records, liars, list(things))

    def test_a_lot_that_just_fits(self):
        # The pairs have a support of 3, 3 and 2 without the liar, who weighs 1 of 5 and must leave out one of them.
        weights = {"ann": 2, "bob": 1, "cy": 1, "dee": 1}
        rows = {"ann": ["a", "b", "c"], "bob": ["b", "c", "a"], "cy": ["c", "a", "b"]}
        edge = 10 ** 57
        for share, wanted in ((Ratio(3, 5), True), (Ratio(3 * edge - 1, 5 * edge), True), (Ratio(3 * edge + 1, 5 * edge), False)):
            self.assert_rings(wanted, Records(weights, share, rows), ["dee"], ["a", "b", "c"])

    def test_a_pair_that_has_less_than_it_needs_even_with_all_liars(self):
        # The pairs have a support of 4, 4 and 2 without the liar, and 8 are needed.
        rows = {"ann": ["a", "b", "c"], "bob": ["c", "a", "b"]}
        records = Records({"ann": 2, "bob": 2, "cy": 6}, Ratio(8, 10), rows)
        self.assertEqual(spares(records, ["cy"], ["a", "b", "c"]), [2, 0, 0])
        self.assert_rings(False, records, ["cy"], ["a", "b", "c"])
        records = Records({"ann": 3, "bob": 1, "cy": 1}, Ratio(4, 5), {"ann": ["a", "b", "c"], "bob": ["b", "c", "a"]})
        self.assertEqual(spares(records, ["cy"], ["a", "b", "c"]), [0, 1, -2])
        self.assert_rings(False, records, ["cy"], ["a", "b", "c"])

    def test_lots_that_fit_only_with_the_right_liars_together(self):
        # Each pair has a support of 6 without the liars, who weigh 5 of 14; if 9 are needed, each lot may weigh 2.
        honest = {"ann": 3, "bob": 3, "cy": 3}
        rows = {"ann": ["a", "b", "c"], "bob": ["b", "c", "a"], "cy": ["c", "a", "b"]}
        for liars, share, wanted in (
            ({"p": 1, "q": 1, "r": 1, "s": 1, "t": 1}, Ratio(9, 14), True),
            ({"p": 1, "q": 1, "r": 1, "s": 1, "t": 1}, Ratio(9 * 10 ** 50 + 1, 14 * 10 ** 50), False),
            ({"p": 2, "q": 2, "r": 1}, Ratio(9, 14), True),
            ({"p": 3, "q": 2}, Ratio(9, 14), False),
            ({"p": 3, "q": 2}, Ratio(8, 14), True),
            ({"p": Ratio(5, 2), "q": Ratio(5, 2)}, Ratio(17, 28), True),
            ({"p": Ratio(5, 2), "q": Ratio(5, 2)}, Ratio(17 * 10 ** 50 + 1, 28 * 10 ** 50), False),
        ):
            records = Records({**honest, **liars}, share, rows)
            self.assertIs(there_are_lots(records, list(liars), ["a", "b", "c"]), wanted)
            self.assert_rings(wanted, records, list(liars), ["a", "b", "c"])

    def test_no_liars(self):
        for records in LARGER:
            for things in all_rings(records.things(), 4):
                self.assert_rings(is_ring(records, things), records, [], things)
        ring = turned_records()
        for things in (["a", "b", "c"], ["c", "a", "b"], ("b", "c", "a")):
            self.assert_rings(True, ring, (), things)
            self.assertTrue(ringing(ring, [], things) == ring)
        self.assert_rings(False, ring, (), ["c", "b", "a"])

    def test_all_recorders_as_for_the_weights_and_the_share(self):
        for records in MOST + LARGER[:15]:
            names = records.recorders()
            weights = {name: records.weight(name) for name in names}
            for size in range(2, len(records.things()) + 1):
                wanted = lots(weights, records.share(), size) is not None
                self.assert_rings(wanted, records, names, records.things()[:size])
                self.assert_rings(wanted, records, names[::-1] + names, records.things()[:size])

    def test_a_thing_that_only_a_liar_has_seen(self):
        weights = {name: 1 for name in "pqrst"}
        records = Records(weights, Ratio(3, 5), {"p": ["x"], "q": ["a", "b"], "r": ["a", "b"]})
        self.assert_rings(False, records, ["p"], ["a", "b", "x"])
        self.assert_rings(False, records, ["p", "s", "t"], ["b", "a", "x"])
        self.assert_rings(True, records, ["p", "s", "t"], ["a", "b", "x"])
        self.assert_rings(True, records, [*"pqrst"], ["b", "a", "x"])

    def test_against_all_rows_of_up_to_two_liars(self):
        found = {True: 0, False: 0}
        for records in SMALL:
            for liars in oracles.groups(records):
                if len(liars) <= 2 and len(records.things()) == 3:
                    views = [ahead for _, ahead in oracles.views(records, liars, oracles.lies(records, liars))]
                    for things in itertools.permutations(records.things(), 3):
                        pairs = set(zip(things, things[1:] + things[:1]))
                        wanted = any(pairs <= ahead for ahead in views)
                        self.assert_rings(wanted, records, liars, things)
                        found[wanted] += 1
        self.assertGreater(min(found.values()), 40)

    def test_against_a_trial_of_all_lots(self):
        found = {True: 0, False: 0}
        for records in LARGER:
            for liars in oracles.groups(records)[::2]:
                for things in all_rings(records.things(), 5)[3::17]:
                    wanted = there_are_lots(records, liars, things)
                    self.assert_rings(wanted, records, liars, things)
                    found[wanted] += 1
        self.assertGreater(min(found.values()), 50)

    def test_tuples_repetitions_and_names_of_arguments(self):
        liars = ["cy", "cy"]
        things = ["a", "b", "c"]
        self.assertIs(can_ring(things=tuple(things), liars=tuple(liars), records=self.records), True)
        told = ringing(things=things, liars=liars, records=self.records)
        self.assertIs(is_ring(told, things), True)
        self.assertEqual((liars, things), (["cy", "cy"], ["a", "b", "c"]))


class JoiningTest(RingCase):
    def test_against_a_trial_of_all_lists(self):
        found = {}
        for records in LARGER[:25]:
            for liars in oracles.groups(records)[::3]:
                rings = [things for things in all_rings(records.things(), 5) if can_ring(records, liars, things)]
                for one, other in itertools.permutations(records.things(), 2):
                    lengths = [len(things) for things in rings if things[0] == one and other in things]
                    for most in (1, 2, 3, 4, 5):
                        wanted = min([length for length in lengths if length <= most], default=None)
                        ring = joining_ring(records, liars, one, other, most)
                        found[(wanted, most)] = found.get((wanted, most), 0) + 1
                        if wanted is None:
                            self.assertIsNone(ring)
                        else:
                            self.assertEqual((type(ring), len(ring), ring[0]), (list, wanted, one))
                            self.assertIn(other, ring)
                            self.assertIn(ring, rings)
        for key in ((3, 3), (3, 5), (4, 4), (5, 5), (None, 5)):
            self.assertGreater(found.get(key, 0), 3, key)

    def test_rings_of_one_length_only(self):
        for count in (3, 4, 5):
            things = list("abcde")[:count]
            weights = {name: 1 for name in things}
            rows = {name: things[at:] + things[:at] for at, name in enumerate(things)}
            records = Records(weights, Ratio(count - 1, count), rows)
            for most in (1, 2, 3, 4, 5):
                for one, other in itertools.permutations(things, 2):
                    at = things.index(one)
                    wanted = things[at:] + things[:at] if most >= count else None
                    self.assertEqual(joining_ring(records, [], one, other, most), wanted)

    def test_a_new_list_on_each_call(self):
        for _ in range(2):
            found = joining_ring(most=3, other="a", one="b", liars=("cy", "cy"), records=self.records)
            self.assertEqual(found, ["b", "c", "a"])
            found.append("x")


class LeastRingersTest(RingCase):
    def test_against_a_trial_of_all_lists(self):
        counts = set()
        for records in [*SMALL[:40], *LARGER[:8], some_records(), turned_records()]:
            for things in all_rings(records.things(), 5)[::3]:
                able = [liars for liars in oracles.groups(records) if can_ring(records, liars, things)]
                found = least_ringers(records, things)
                if not able:
                    self.assertIsNone(found)
                    counts.add(None)
                    continue
                self.assertIn(found, able)
                least = min(oracles.weight_of(records, liars) for liars in able)
                self.assertEqual(oracles.weight_of(records, found), least)
                counts.add(len(found))
        self.assertLessEqual({None, 0, 1, 2, 3}, counts)

    def test_the_weight_counts_and_not_the_heads(self):
        rows = {"p": ["a", "b", "c"], "q": ["b", "c", "a"], "r": ["c", "b", "a"], "s": ["c", "b"], "t": ["c", "b", "a"]}
        for weights, wanted in (
            ({"p": 3, "q": 3, "r": 3, "s": Ratio(1, 2), "t": Ratio(1, 2)}, ["r"]),
            ({"p": 3, "q": 3, "r": 1, "s": 1, "t": 1}, ["r", "s", "t"]),
        ):
            self.assertEqual(least_ringers(Records(weights, Ratio(3, 5), rows), ["a", "b", "c"]), wanted)

    def test_what_is_a_ring_as_it_is(self):
        for _ in range(2):
            found = least_ringers(things=("b", "c", "a"), records=turned_records())
            self.assertEqual(found, [])
            found.append("x")

    def test_not_even_all_recorders_can(self):
        for share in (Ratio(2 * 10 ** 50 + 1, 3 * 10 ** 50), 1):
            for things in itertools.permutations("abc"):
                self.assertIsNone(least_ringers(some_records(share), list(things)))
        self.assertIsNone(least_ringers(Records({"ann": 1}, 1, {"ann": ["a", "b", "c"]}), ["a", "b", "c"]))


class ErrorsTest(RingCase):
    def bad_rings(self):
        """Values that cannot be a ring."""
        return [
            *odd_lists(), ["a"], ("b",), ["a", "b", "a"], ["a", "a"], ["a", "b", "c", "c"], ["a", "z"], ["z", "y", "x"],
            ["a", "b", "ann"], ["a", "b", "B"], "abc", {"a": 1, "b": 2, "c": 3}, [["a", "b", "c"]], ["a", "b", Ratio(1)],
        ]

    def test_bad_ring(self):
        for value in self.bad_rings():
            for liars in ([], ["cy"], ("ann", "bob", "cy", "cy")):
                self.assert_given(BadRing, value, can_ring, self.records, liars, value)
                self.assert_given(BadRing, value, ringing, self.records, liars, value)
            self.assert_given(BadRing, value, least_ringers, self.records, value)

    def test_no_recorder_first(self):
        for value in [*odd_values(), "a", "dee"]:
            for call in (can_ring, ringing):
                for things in (["a", "b", "c"], ["a"], None):
                    self.assert_given(NoRecorder, value, call, self.records, ["cy", value, None], things)
            for others in (("a", "b", 3), (None, "b", 3), ("a", "a", None), ("a", "b", 0)):
                self.assert_given(NoRecorder, value, joining_ring, self.records, (value, "x"), *others)

    def test_no_thing_before_bad_count(self):
        for value in [*odd_values(), "z", "ann", ["a"]]:
            for most in (3, 0, 6, None):
                self.assert_given(NoThing, value, joining_ring, self.records, ["cy"], value, "a", most)
                self.assert_given(NoThing, value, joining_ring, self.records, ["cy"], "a", value, most)
                self.assert_given(NoThing, value, joining_ring, self.records, [], value, "z", most)
        for most in (3, 0, None):
            self.assert_given(NoThing, "b", joining_ring, self.records, ["cy"], "b", "b", most)

    def test_bad_count(self):
        for value in [*odd_values(), 6, -3, 10 ** 60, Ratio(3), Ratio(5), "3", [3], (1,), {3: 3}]:
            self.assert_given(BadCount, value, joining_ring, self.records, ["cy"], "a", "b", value)
        for most in (1, 2):
            self.assertIsNone(joining_ring(self.records, ["cy"], "a", "b", most))
        for most in (3, 4, 5):
            self.assertEqual(joining_ring(self.records, ["cy"], "a", "b", most), ["a", "b", "c"])


class LimitsTest(RingCase):
    def test_great_numbers_many_recorders_and_many_things(self):
        edge = 10 ** 59
        things = list("abcdefghijkl")
        rows = {name: things[at:] + things[:at] for at, name in enumerate(oracles.RECORDERS)}
        weights = {name: Ratio(edge + 7 * at * at, edge // 3 + at) for at, name in enumerate(oracles.RECORDERS)}
        records = Records(weights, Ratio(5 * edge // 8 + 1, edge), rows)
        found = least_ringers(records, things[::-1])
        self.assert_rings(True, records, found, things[::-1])
        for gone in found:
            self.assert_rings(False, records, [name for name in found if name != gone], things[::-1])
        self.assertIsNone(least_ringers(records.with_share(Ratio(edge - 1, edge)), things))
        self.assertIsNone(joining_ring(records.with_share(Ratio(4, 5)), oracles.RECORDERS, "a", "f", 5))
        self.assertEqual(len(joining_ring(records, oracles.RECORDERS, "l", "f", 5)), 3)
