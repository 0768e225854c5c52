"""Points 2 to 8 and 40 to 42: when things can have been sent."""

import itertools
from fractions import Fraction

from fairbatches.batches import batches
from fairbatches.delays import batch_spans, fits_times, latest, moments, span
from fairbatches.errors import BadDelay, BadTimes, NoThing
from fairbatches.ratios import Ratio
from fairbatches.records import Records
from tests import oracles
from tests.support import ErrorCase, odd_values

ROWS = {"ann": ["a", "b", "c", "d"], "bob": ["b", "c", "a", "d"], "cy": ["c", "a", "b"]}
SMALL = oracles.many_records(71, 40, 3, ["a", "b", "c"])
LARGER = oracles.many_records(72, 60, 5, ["a", "b", "c", "d", "e"])
# Few recorders, so that many things are in one order for all who have seen them.
SPARSE = oracles.many_records(73, 60, 2, ["a", "b", "c", "d", "e"])
EDGE = Ratio(1, 10 ** 50)


def some_records():
    """Three recorders, one of whom has not seen d."""
    return Records({"ann": 1, "bob": 1, "cy": 1}, Ratio(2, 3), ROWS)


def line_records(things):
    """Records in which each thing is seen behind the next one by somebody, and things further on by nobody."""
    rows = {}
    for at, name in enumerate(oracles.RECORDERS[:len(things) - 1]):
        rows[name] = things[:at] + [things[at + 1], things[at]] + things[at + 2:]
    return Records({name: 1 for name in rows}, 1, rows)


def can_be_seen(records, delay, times):
    """Whether the rows can have come about [40], by a trial of all moments, which are integers."""
    for name in records.recorders():
        row = records.row(name)
        choices = [range(times[thing], times[thing] + delay + 1) for thing in records.things()]
        for chosen in itertools.product(*choices):
            seen = dict(zip(records.things(), chosen))
            order = [seen[thing] for thing in row]
            rest = [seen[thing] for thing in records.things() if thing not in row]
            if order == sorted(order) and all(later >= moment for later in rest for moment in order):
                break
        else:
            return False
    return True


def fitting(records, delay, most):
    """All times that fit, of integers from 0 to so many, by the words of the main statement."""
    pairs = {
        pair for name in records.recorders()
        for pair in oracles.supported(tuple(records.row(name)), tuple(records.things()))
    }
    found = []
    for chosen in itertools.product(range(most + 1), repeat=len(records.things())):
        times = dict(zip(records.things(), chosen))
        if all(times[one] <= times[other] + delay for one, other in pairs):
            found.append(times)
    return found


class DelaysCase(ErrorCase):
    def setUp(self):
        self.records = some_records()

    def tearDown(self):
        self.assertTrue(self.records == some_records())

    def assert_moments(self, records, delay, times):
        """The moments can be those at which the recorders saw the things."""
        found = moments(records, delay, times)
        self.assertEqual((type(found), sorted(found)), (dict, records.recorders()))
        last = {thing: oracles.as_fraction(times[thing]) + oracles.as_fraction(delay) for thing in times}
        for name, given in found.items():
            row = records.row(name)
            self.assertEqual((type(given), len(given)), (list, len(row)))
            self.assertEqual({type(moment) for moment in given} | {Ratio}, {Ratio})
            seen = [oracles.as_fraction(moment) for moment in given]
            self.assertEqual(seen, sorted(seen))
            for thing, moment in zip(row, seen):
                self.assertLessEqual(oracles.as_fraction(times[thing]), moment)
                self.assertLessEqual(moment, last[thing])
            for thing in records.things():
                if thing not in row and seen:
                    self.assertLessEqual(seen[-1], last[thing])


class ExamplesTest(DelaysCase):
    def test_examples_of_the_interface(self):
        records = self.records
        self.assertEqual(
            (fits_times(records, 2, {"a": 0, "b": 2, "c": 1, "d": 5}), fits_times(records, 2, {"a": 0, "b": 3, "c": 1, "d": 5})),
            (True, False),
        )
        self.assertEqual(
            (span(records, 2, "a", "d").text(), span(records, 2, "d", "a"), span(records, Ratio(1, 2), "a", "b").text()),
            ("2", None, "1/2"),
        )
        self.assertEqual(
            ([(batch, number.text()) for batch, number in batch_spans(records, 3)], latest(records, 1, "d", "a")),
            ([(["a", "b", "c"], "3"), (["d"], "0")], None),
        )
        self.assert_given(BadDelay, -1, fits_times, records, -1, None)


class FitsTest(DelaysCase):
    def test_against_a_trial_of_all_moments(self):
        counts = {True: 0, False: 0}
        for records in SMALL:
            for delay in (0, 1, 2):
                for chosen in itertools.product(range(4), repeat=len(records.things())):
                    times = dict(zip(records.things(), chosen))
                    wanted = can_be_seen(records, delay, times)
                    self.assertIs(fits_times(records, delay, times), wanted)
                    counts[wanted] += 1
                    if wanted:
                        self.assert_moments(records, delay, times)
                    else:
                        self.assertIsNone(moments(records, delay, times))
        self.assertGreater(min(counts.values()), 100)

    def test_a_delay_of_zero(self):
        records = Records({"ann": 1, "bob": 1}, 1, {"ann": ["a", "b"], "bob": ["a", "b", "c"]})
        for times, wanted in (
            ({"a": 0, "b": 0, "c": 0}, True), ({"a": -1, "b": Ratio(-1, 2), "c": Ratio(-1, 2)}, True),
            ({"a": 0, "b": 1, "c": 2}, True), ({"a": 0, "b": EDGE, "c": 0}, False), ({"a": 0, "b": -EDGE, "c": 5}, False),
        ):
            self.assertIs(fits_times(records, 0, times), wanted)
            self.assertIs(fits_times(records, Ratio(0), times), wanted)
            if wanted:
                self.assert_moments(records, 0, times)

    def test_just_within_and_just_beyond_the_delay(self):
        records = Records({"ann": 1, "bob": 1}, 1, {"ann": ["a", "b"], "bob": []})
        for delay in (3, Ratio(3), Ratio(1, 3), Ratio(10 ** 59, 7)):
            for start in (0, -5, Ratio(1, 3)):
                end = Ratio(0) + start + delay
                self.assertIs(fits_times(records, delay, {"a": end, "b": start}), True)
                self.assert_moments(records, delay, {"b": start, "a": end})
                self.assertIs(fits_times(records, delay, {"a": end - EDGE, "b": start}), True)
                self.assertIs(fits_times(records, delay, {"a": end + EDGE, "b": start}), False)
                self.assertIsNone(moments(records, delay, {"a": end + EDGE, "b": start}))
                self.assertIs(fits_times(records, delay, {"a": start, "b": end + 10 ** 60}), True)

    def test_what_a_recorder_has_not_seen(self):
        records = Records({"ann": 1, "bob": 1}, 1, {"ann": ["a"], "bob": ["b"]})
        for one, other, wanted in ((0, 2, True), (2, 0, True), (0, 3, False), (3, 0, False)):
            self.assertIs(fits_times(records, 2, {"a": one, "b": other}), wanted)
        records = records.with_row("bob", ["b", "a"])
        self.assertIs(fits_times(records, 2, {"a": 9, "b": 0}), False)
        self.assertIs(fits_times(records, 2, {"a": 2, "b": 0}), True)
        self.assertIs(fits_times(records, 2, {"a": 0, "b": 3}), False)

    def test_moments_of_chosen_records(self):
        found = moments(times={"a": 0, "b": 2, "c": 1, "d": 5}, delay=2, records=self.records)
        self.assertEqual(sorted(found), ["ann", "bob", "cy"])
        self.assert_moments(self.records, 2, {"a": 0, "b": 2, "c": 1, "d": 5})
        empty = Records({"ann": 1, "bob": 2}, 1, {})
        self.assertEqual((moments(empty, 0, {}), fits_times(empty, 5, {})), ({"ann": [], "bob": []}, True))

    def test_the_times_stay_as_they_are(self):
        times = {"d": 5, "a": 0, "c": 1, "b": 2}
        for _ in range(2):
            self.assertIs(fits_times(times=times, delay=2, records=self.records), True)
            found = moments(self.records, 2, times)
            found["ann"].append(7)
            found["x"] = []
        self.assertEqual(times, {"d": 5, "a": 0, "c": 1, "b": 2})


class SpanTest(DelaysCase):
    def test_against_a_trial_of_all_times(self):
        found = set()
        for records in SMALL[:20] + SPARSE[:12]:
            if len(records.things()) > 4:
                continue
            most = len(records.things()) + 1
            fits = fitting(records, 1, most)
            for one, other in itertools.permutations(records.things(), 2):
                # With a delay of 1 no span reaches the greatest number that is tried.
                apart = max(times[one] - times[other] for times in fits)
                wanted = None if apart == most else apart
                number = span(records, 1, one, other)
                self.assertEqual(None if number is None else number.text(), None if wanted is None else str(wanted))
                found.add(wanted)
        self.assertLessEqual({None, 1}, found)

    def test_told_times_fit_and_reach_the_number(self):
        found = set()
        for records in LARGER + SPARSE + [line_records(list("abcdefg"))]:
            for delay in (0, 1, Ratio(7, 3)):
                for one, other in itertools.permutations(records.things(), 2):
                    number = span(records, delay, one, other)
                    times = latest(records, delay, one, other)
                    found.add(None if number is None else number.text())
                    if number is None:
                        self.assertIsNone(times)
                        continue
                    self.assertIs(type(number), Ratio)
                    self.assertEqual((type(times), sorted(times)), (dict, records.things()))
                    self.assertEqual({type(time) for time in times.values()}, {Ratio})
                    self.assertIs(fits_times(records, delay, times), True)
                    self.assertEqual(times[one] - times[other], number)
        self.assertLessEqual({None, "0", "1", "2", "3", "7/3"}, found)

    def test_several_steps(self):
        records = line_records(list("abcdefgh"))
        for at, thing in enumerate("bcdefgh"):
            self.assert_ratio(span(records, 3, thing, "a"), str(3 * (at + 1)))
            self.assert_ratio(span(records, Ratio(1, 2), thing, "a"), str(Fraction(at + 1, 2)))
            self.assert_ratio(span(records, 3, "a", thing), "3")
            self.assert_ratio(span(records, 0, thing, "a"), "0")

    def test_no_times_reach_further(self):
        records = line_records(list("abcd"))
        for one, other in itertools.permutations("abcd", 2):
            times = latest(records, 2, one, other)
            self.assertIs(fits_times(records, 2, {**times, one: times[one] + EDGE}), False)

    def test_there_is_no_greatest_number(self):
        records = Records({"ann": 1, "bob": 2}, 1, {"ann": ["a", "b", "c"], "bob": ["a", "b"]})
        for pair in ("ba", "ca", "cb"):
            for delay in (0, 1, Ratio(1, 3)):
                self.assertIsNone(span(records, delay, *pair))
                self.assertIsNone(latest(records, delay, *pair))

    def test_arguments_by_name(self):
        self.assert_ratio(span(other="d", one="a", delay=2, records=self.records), "2")
        for _ in range(2):
            times = latest(other="d", one="a", delay=2, records=self.records)
            self.assertEqual(times["a"] - times["d"], 2)
            times.clear()


class BatchSpansTest(DelaysCase):
    def test_against_the_spans(self):
        found = set()
        for records in [*LARGER, *SPARSE, line_records(list("abcde")).with_share(Ratio(3, 4))]:
            for delay in (0, 1, Ratio(5, 2)):
                told = batch_spans(records, delay)
                self.assertEqual([batch for batch, _ in told], batches(records))
                for entry in told:
                    self.assertEqual((type(entry), len(entry)), (tuple, 2))
                    spans = [span(records, delay, *pair) for pair in itertools.permutations(entry[0], 2)]
                    wanted = max([oracles.as_fraction(number) for number in spans], default=0)
                    self.assert_ratio(entry[1], str(wanted))
                    found.add(entry[1].text())
        self.assertLessEqual({"0", "1", "5/2"}, found)

    def test_a_batch_with_things_that_are_two_steps_apart(self):
        # All have seen d ahead of a, so that only two steps lead from a to d, such as those by way of c.
        rows = {"ann": "deabc", "bob": "cdeab", "cy": "bcdea"}
        records = Records({name: 1 for name in rows}, Ratio(2, 3), {name: list(row) for name, row in rows.items()})
        self.assertEqual([(batch, number.text()) for batch, number in batch_spans(records, 3)], [([*"abcde"], "6")])
        self.assert_ratio(span(records, 3, "a", "d"), "6")
        self.assert_ratio(span(records, 3, "d", "a"), "3")

    def test_main_statement(self):
        for records in SMALL:
            for delay in (0, 1):
                fits = fitting(records, delay, 4)
                for batch, number in batch_spans(records, delay):
                    apart = max(times[one] - times[other] for times in fits for one in batch for other in batch)
                    self.assertLessEqual(apart, oracles.as_fraction(number))

    def test_new_lists_on_each_call(self):
        for _ in range(2):
            found = batch_spans(delay=Ratio(3), records=self.records)
            self.assertEqual([batch for batch, _ in found], [["a", "b", "c"], ["d"]])
            found[0][0].append("x")
            found.append(None)
        self.assertEqual(batch_spans(Records({"ann": 1}, 1, {}), 1), [])


class ErrorsTest(DelaysCase):
    def bad_delays(self):
        """Values that are no number, or one below 0."""
        return [value for value in odd_values() if not isinstance(value, (int, Ratio)) or isinstance(value, bool)] + [
            -1, -10 ** 60, Ratio(-1, 3), Ratio(-1, 10 ** 60), "0", [0], (1,), {0: 1},
        ]

    def bad_times(self):
        """Values that are no dict with a number for each thing."""
        right = {"a": 0, "b": 2, "c": 1, "d": 5}
        found = [*odd_values(), list(right), list(right.items()), tuple(right), "abcd"]
        found += [{**right, more: 0} for more in ("e", "ann", "", 1, None, True, ("a",))]
        found += [{thing: right[thing] for thing in right if thing != left} for left in right]
        found += [{**{thing: right[thing] for thing in "abc"}, more: 5} for more in ("e", "D", 4, None, ("d",))]
        found += [{**right, "c": value} for value in (None, True, False, "1", "", [1], (1,), {}, {"c": 1})]
        return found

    def test_bad_delay_first(self):
        for value in self.bad_delays():
            for call in (fits_times, moments):
                for times in ({"a": 0, "b": 2, "c": 1, "d": 5}, {}, None):
                    self.assert_given(BadDelay, value, call, self.records, value, times)
            for call in (span, latest):
                for one, other in (("a", "b"), ("x", "a"), (None, "a"), ("a", "a")):
                    self.assert_given(BadDelay, value, call, self.records, value, one, other)
            self.assert_given(BadDelay, value, batch_spans, self.records, value)

    def test_bad_times(self):
        for value in self.bad_times():
            for call in (fits_times, moments):
                for delay in (0, 100, Ratio(1, 2)):
                    self.assert_given(BadTimes, value, call, self.records, delay, value)

    def test_no_thing(self):
        for value in [*odd_values(), "e", "ann", ["a"], ("a",)]:
            for call in (span, latest):
                for delay in (0, Ratio(1, 3)):
                    self.assert_given(NoThing, value, call, self.records, delay, value, "a")
                    self.assert_given(NoThing, value, call, self.records, delay, "a", value)
                    self.assert_given(NoThing, value, call, self.records, delay, value, "x")
        for call in (span, latest):
            self.assert_given(NoThing, "b", call, self.records, 1, "b", "b")


class LimitsTest(DelaysCase):
    def test_great_numbers_many_recorders_and_many_things(self):
        edge = 10 ** 59
        things = list("abcdefghijkl")
        rows = {name: things[at:] + things[:at] for at, name in enumerate(oracles.RECORDERS)}
        records = Records({name: 1 for name in rows}, Ratio(5, 8), rows)
        delay = Ratio(edge + 1, edge - 1)
        self.assert_moments(records, delay, {thing: Ratio(at, 12 * edge) for at, thing in enumerate(things)})
        for pair in (("a", "l"), ("l", "a"), ("i", "h"), ("h", "i")):
            times = latest(records, delay, *pair)
            self.assertIs(fits_times(records, delay, times), True)
            self.assertEqual(times[pair[0]] - times[pair[1]], span(records, delay, *pair))
