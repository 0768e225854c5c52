"""Points 2 to 8 and 37 to 39: how batches and orders depend on the share."""

import itertools

from fairbatches.batches import batches, is_fair, merged
from fairbatches.errors import BadOrder, NoThing
from fairbatches.ratios import Ratio
from fairbatches.records import Records
from fairbatches.shares import batch_share, lead_share, merge_share, split_shares, unfairness
from tests import oracles
from tests.support import ErrorCase, odd_lists, odd_values

ROWS = {"ann": ["a", "b", "c", "d"], "bob": ["b", "c", "a", "d"], "cy": ["c", "a", "b"]}
SMALL = oracles.many_records(61, 40, 4, ["a", "b", "c", "d"])
LARGER = oracles.many_records(62, 60, 6, ["a", "b", "c", "d", "e", "f"])
EDGE = Ratio(1, 10 ** 50)
HALF = Ratio(1, 2)


def some_records(share=Ratio(2, 3)):
    """Three recorders; three of the things are a ring, and the fourth one comes behind it."""
    return Records({"ann": 1, "bob": 1, "cy": 1}, share, ROWS)


def two_rings():
    """Eight recorders: a, b and c lead to one another up to the share 5/8, and d, e, f and g up to 6/8."""
    first = ["abc", "abc", "abc", "bca", "bca", "cab", "cab", "cab"]
    second = ["defg", "defg", "efgd", "efgd", "fgde", "fgde", "gdef", "gdef"]
    rows = {name: [*one, *other] for name, one, other in zip(oracles.RECORDERS, first, second)}
    return Records({name: 1 for name in rows}, 1, rows)


def lead_by_trial(records, one, other):
    """The greatest number for which there is a list as told in [37], by a trial of all lists."""
    others = [thing for thing in records.things() if thing not in (one, other)]
    found = []
    for size in range(len(others) + 1):
        for middle in itertools.permutations(others, size):
            path = [one, *middle, other]
            found.append(min(oracles.support(records, *pair) for pair in zip(path, path[1:])))
    return max(found) / oracles.weight_of(records, records.recorders())


class SharesCase(ErrorCase):
    def setUp(self):
        self.records = some_records()

    def tearDown(self):
        self.assertTrue(self.records == some_records())


class ExamplesTest(SharesCase):
    def test_examples_of_the_interface(self):
        records = self.records
        self.assertEqual(
            (lead_share(records, "a", "d").text(), lead_share(records, "d", "a").text(),
             merge_share(records, "b", "a").text(), batch_share(records, ["a", "b", "c"]).text()),
            ("1", "0", "2/3", "2/3"),
        )
        self.assertEqual(
            [(number.text(), parts) for number, parts in split_shares(records)],
            [("1/2", [["a", "b", "c"], ["d"]]), ("2/3", [["a"], ["b"], ["c"], ["d"]])],
        )
        self.assertEqual(
            (unfairness(records, [["d"], ["a", "b", "c"]]).text(), unfairness(records, [["a"], ["b"], ["c"], ["d"]]).text(),
             unfairness(records, [["a", "b", "c", "d"]]).text()),
            ("1", "2/3", "0"),
        )
        self.assert_given(NoThing, "a", lead_share, records, "a", "a")


class LeadTest(SharesCase):
    def test_against_a_trial_of_all_lists(self):
        found = set()
        for records in [*SMALL, *LARGER[:4]]:
            for one, other in itertools.permutations(records.things(), 2):
                lead = lead_by_trial(records, one, other)
                self.assert_ratio(lead_share(records, one, other), str(lead))
                back = lead_by_trial(records, other, one)
                self.assert_ratio(merge_share(records, one, other), str(min(lead, back)))
                found.add(lead)
        self.assertLessEqual({0, 1}, found)
        self.assertGreater(len(found), 10)

    def test_the_share_of_the_records_plays_no_role(self):
        things = ["a", "b", "c", "d"]
        for share in (Ratio(51, 100), Ratio(2, 3), Ratio(4, 5), 1):
            records = some_records(share)
            for one, other in itertools.permutations(things, 2):
                self.assertEqual(lead_share(records, one, other), lead_share(self.records, one, other))
                self.assertEqual(merge_share(records, one, other), merge_share(self.records, one, other))
            self.assertEqual(split_shares(records), split_shares(self.records))
            self.assert_ratio(batch_share(records, things), "0")
            self.assert_ratio(unfairness(records, [["b"], ["c"], ["a", "d"]]), "2/3")

    def test_just_the_shares_up_to_the_number_merge(self):
        for records in LARGER[:30]:
            for one, other in itertools.permutations(records.things(), 2):
                number = merge_share(records, one, other)
                if HALF < number:
                    self.assertIs(merged(records.with_share(number), one, other), True)
                    self.assertIs(merged(records.with_share(number + EDGE), one, other), False)
                else:
                    self.assertIs(merged(records.with_share(HALF + EDGE), one, other), False)

    def test_chosen_numbers(self):
        records = two_rings()
        for pair, lead, merge in (
            ("ab", "3/4", "5/8"), ("ba", "5/8", "5/8"), ("ac", "5/8", "5/8"), ("de", "3/4", "3/4"), ("dg", "3/4", "3/4"),
            ("ad", "1", "0"), ("da", "0", "0"),
        ):
            self.assert_ratio(lead_share(other=pair[1], one=pair[0], records=records), lead)
            self.assert_ratio(merge_share(other=pair[1], one=pair[0], records=records), merge)


class SplitTest(SharesCase):
    def test_against_the_batches_with_shares_between(self):
        lengths = set()
        for records in [*SMALL, *LARGER, two_rings()]:
            found = split_shares(records)
            self.assertEqual({type(entry) for entry in found}, {tuple})
            numbers = [number for number, _ in found]
            self.assert_ratio(numbers[0], "1/2")
            for (number, parts), end in zip(found, [*numbers[1:], Ratio(1)]):
                self.assertIs(type(number), Ratio)
                self.assertIs(number < end, True)
                for share in (number + EDGE, (number + end) * HALF, end - EDGE, end):
                    self.assertEqual(parts, batches(records.with_share(share)))
                    self.assertEqual(parts, oracles.batches(records.with_share(share)))
            for (_, parts), (_, smaller) in zip(found, found[1:]):
                self.assertNotEqual(parts, smaller)
                for batch in smaller:
                    self.assertTrue(any(set(batch) <= set(other) for other in parts))
            lengths.add(len(found))
        self.assertLessEqual({1, 2, 3}, lengths)

    def test_chosen_records(self):
        ring = [["a", "b", "c"], ["d", "e", "f", "g"]]
        self.assertEqual(
            [(number.text(), parts) for number, parts in split_shares(two_rings())],
            [("1/2", ring), ("5/8", [["a"], ["b"], ["c"], ring[1]]), ("3/4", [[thing] for thing in "abcdefg"])],
        )

    def test_numbers_at_and_below_one_half_are_left_out(self):
        rows = {"ann": ["a", "b"], "bob": ["b", "a"], "cy": ["a", "c", "b"], "dee": ["c", "b", "a"]}
        records = Records({name: 1 for name in rows}, 1, rows)
        self.assert_ratio(merge_share(records, "a", "b"), "1/2")
        self.assertEqual([(number.text(), parts) for number, parts in split_shares(records)], [("1/2", [["a"], ["b"], ["c"]])])

    def test_no_things_and_one(self):
        self.assertEqual(split_shares(Records({"ann": 1}, 1, {})), [(HALF, [])])
        self.assertEqual(split_shares(Records({"ann": 1}, 1, {"ann": ["b"]})), [(HALF, [["b"]])])

    def test_new_lists_on_each_call(self):
        for _ in range(2):
            found = split_shares(records=self.records)
            self.assertEqual(found[0][1], [["a", "b", "c"], ["d"]])
            found[0][1][0].append("x")
            found[0][1].append([])
            found.append(None)


class BatchShareTest(SharesCase):
    def test_no_thing_and_one(self):
        for things in ([], (), ["a"], ("b",), ["c", "c"], ("d", "d", "d")):
            self.assert_ratio(batch_share(self.records, things), "1")
        self.assert_ratio(batch_share(Records({"ann": 1}, Ratio(2, 3), {}), []), "1")

    def test_against_the_pairs(self):
        for records in LARGER[:16]:
            for size in (2, 3, 5):
                for things in list(itertools.permutations(records.things(), size))[::29]:
                    shares = [merge_share(records, *pair) for pair in itertools.combinations(things, 2)]
                    least = min(oracles.as_fraction(share) for share in shares)
                    self.assert_ratio(batch_share(records, list(things)), str(least))
                    self.assert_ratio(batch_share(records, (*things, things[0])), str(least))

    def test_just_the_shares_up_to_the_number_merge_all(self):
        records = two_rings()
        for things, text in (("abc", "5/8"), ("defg", "3/4"), ("dg", "3/4"), ("abd", "0")):
            given = list(things)
            self.assert_ratio(batch_share(things=given, records=records), text)
            self.assertEqual(given, list(things))


class UnfairnessTest(SharesCase):
    def test_against_the_words_of_the_document(self):
        found = set()
        for records in SMALL:
            whole = oracles.weight_of(records, records.recorders())
            for order in oracles.orders(records.things())[::4]:
                place = {thing: at for at, part in enumerate(order) for thing in part}
                supports = [
                    oracles.support(records, one, other)
                    for one, other in itertools.permutations(records.things(), 2) if place[one] > place[other]
                ]
                wanted = max(supports, default=0) / whole
                self.assert_ratio(unfairness(records, order), str(wanted))
                found.add(wanted)
        self.assertLessEqual({0, 1}, found)

    def test_fair_with_just_the_shares_above(self):
        for records in SMALL:
            for order in oracles.orders(records.things())[::7]:
                number = unfairness(records, order)
                if HALF < number:
                    self.assertIs(is_fair(records.with_share(number), order), False)
                if HALF <= number and not number == 1:
                    self.assertIs(is_fair(records.with_share(number + EDGE), order), True)
                if number < HALF:
                    self.assertIs(is_fair(records.with_share(HALF + EDGE), order), True)

    def test_no_such_pair(self):
        self.assert_ratio(unfairness(self.records, [["d", "c", "b", "a"]]), "0")
        self.assert_ratio(unfairness(Records({"ann": 1}, 1, {}), []), "0")
        self.assert_ratio(unfairness(Records({"ann": 1}, 1, {"ann": ["b", "a"]}), [["b"], ["a"]]), "0")

    def test_tuples_and_names_of_arguments(self):
        order = (("d",), ["a", "c", "b"])
        self.assert_ratio(unfairness(order=order, records=self.records), "1")
        self.assertEqual(order, (("d",), ["a", "c", "b"]))


class ErrorsTest(SharesCase):
    def test_no_thing(self):
        for value in [*odd_values(), "e", "ann", ["a"], ("a",)]:
            for call in (lead_share, merge_share):
                self.assert_given(NoThing, value, call, self.records, value, "a")
                self.assert_given(NoThing, value, call, self.records, "a", value)
                self.assert_given(NoThing, value, call, self.records, value, "x")
            for things in ([value], ["a", value, "x"], ("b", "b", value), [value, None]):
                self.assert_given(NoThing, value, batch_share, self.records, things)
        for call in (lead_share, merge_share):
            self.assert_given(NoThing, "b", call, self.records, "b", "b")

    def test_bad_order(self):
        for value in [*odd_lists(), [["a"], ["b"], ["c"]], [["a", "b", "c", "d"], []], [["a", "b", "c", "d", "a"]]]:
            self.assert_given(BadOrder, value, unfairness, self.records, value)


class LimitsTest(SharesCase):
    def test_great_numbers_many_recorders_and_many_things(self):
        edge = 10 ** 59
        things = list("abcdefghijkl")
        rows = {name: things[at:] + things[:at] for at, name in enumerate(oracles.RECORDERS)}
        weights = {name: Ratio(edge + 7 * at * at, edge // 3 + at) for at, name in enumerate(oracles.RECORDERS)}
        records = Records(weights, 1, rows)
        number = batch_share(records, things)
        self.assertIs(merged(records.with_share(number), "a", "l"), True)
        self.assertNotEqual(batches(records.with_share(number)), batches(records.with_share(number + Ratio(1, edge))))
        found = split_shares(records)
        self.assertEqual(found[0], (HALF, [things]))
        self.assertEqual(found[1][0], number)
        self.assertEqual(found[-1][1], [[thing] for thing in things])
