"""Points 2 to 8 and 43 to 46: a house, its steps, and its text."""

import random

from fairbatches.ahead import is_ahead
from fairbatches.errors import (
    BadLine, BadName, BadShare, BadWeight, InUse, LastOne, NoRecorder, NothingToRedo, NothingToUndo, OrderError,
)
from fairbatches.growing import first_given
from fairbatches.house import House
from fairbatches.ratios import Ratio
from fairbatches.records import Records
from tests.support import ErrorCase, odd_values

TWO_THIRDS = Ratio(2, 3)
THREE = {"ann": 1, "bob": 1, "cy": 1}
TEXT = "see ann a\nsee ann b\nsee bob a\nsee bob c\nsee cy b"


def some_house():
    """A house in which a and b can be given out."""
    house = House(THREE, TWO_THIRDS)
    house.take(TEXT)
    return house


def view(house):
    """All that a house tells."""
    return [
        house.records().text(), len(house), house.order(), house.waiting(), house.wrong(), house.text(),
    ]


def replayed(weights, share, lines):
    """The records and the lists given out after some steps, and what the last step returned, by the words alone."""
    records = Records(weights, share, {})
    order = []
    found = None
    for line in lines:
        words = line.split()
        found = None
        if words[0] == "see":
            records = records.seen(words[1], words[2])
        elif words[0] == "strike":
            records = records.without(words[1])
        else:
            given = {thing for part in order for thing in part}
            found = [[thing for thing in part if thing not in given] for part in first_given(records)]
            found = [part for part in found if part]
            order = order + found
    return records, order, found


def wrong(records, order):
    """The first pair that is in the wrong [44], by a trial of all pairs."""
    place = {thing: at for at, part in enumerate(order) for thing in part}
    for one in records.things():
        for other in records.things():
            if is_ahead(records, one, other) and other in place and place.get(one, len(order)) > place[other]:
                return (one, other)
    return None


class HouseCase(ErrorCase):
    def assert_unchanged(self, house, error, call, *values):
        """The call raises the error, and the house is as it was, also what can be taken back and done again."""
        before = view(house)
        found = self.error_of(error, call, *values)
        self.assertEqual(view(house), before)
        return found


class ExamplesTest(HouseCase):
    def test_examples_of_the_interface(self):
        house = House({"ann": 1, "bob": 1, "cy": 1}, Ratio(2, 3))
        self.assertEqual(
            (house.take("see ann a\nsee ann b\nsee bob a\nsee bob c\nsee cy b"), house.give(), house.waiting(), len(house)),
            (None, [["a"], ["b"]], ["c"], 6),
        )
        self.assertEqual(
            (house.give(), house.see("cy", "c"), house.give(), house.order(), house.wrong()),
            ([], None, [["c"]], [["a"], ["b"], ["c"]], None),
        )
        self.assertEqual(
            (house.tried(len), house.undo(), house.undo(), house.text().split("\n")[-2:], house.order()),
            (9, None, None, ["give", "give"], [["a"], ["b"]]),
        )
        self.assert_given(InUse, "a", house.see, "ann", "a")


class NewHouseTest(HouseCase):
    def test_an_empty_house(self):
        house = House(share=1, weights={"bob": 2, "ann": Ratio(1, 2)})
        self.assertEqual(view(house), ["share 1\nann 1/2\nbob 2", 0, [], [], None, ""])
        self.assertIs(type(house.records()), Records)
        self.assertIs(type(len(house)), int)
        self.assertEqual(house.give(), [])

    def test_the_weights_are_copied(self):
        weights = dict(THREE)
        house = House(weights, TWO_THIRDS)
        weights["ann"] = 5
        weights["dee"] = 1
        self.assertEqual(house.records().text(), "share 2/3\nann 1\nbob 1\ncy 1")

    def test_errors_in_their_order(self):
        for key in [None, True, 0, "", "Ann", "a b", "ninechars", (), ("ann",)]:
            self.assert_given(BadName, key, House, {"ann": 0, key: None, "B": 1}, None)
        for weight in [None, True, False, 0, -1, Ratio(0), Ratio(-1, 2), "1", [1], (1,), {}]:
            self.assert_given(BadWeight, weight, House, {"bob": 1, "ann": weight, "cy": -5}, None)
        for share in [*odd_values(), 2, Ratio(1, 3), "2/3"]:
            self.assert_given(BadShare, share, House, THREE, share)


class StepsTest(HouseCase):
    def test_see(self):
        house = House(THREE, TWO_THIRDS)
        self.assertIsNone(house.see("ann", "a"))
        self.assertIsNone(house.see(thing="b", recorder="ann"))
        self.assertEqual(house.records().row("ann"), ["a", "b"])
        self.assertTrue(house.records() == Records(THREE, TWO_THIRDS, {"ann": ["a", "b"]}))
        self.assertEqual((len(house), house.text()), (2, "see ann a\nsee ann b"))

    def test_see_raises_its_errors_in_their_order(self):
        house = some_house()
        house.undo()
        for value in [*odd_values(), "a", "dee"]:
            for thing in ("z", "a", None, "B"):
                self.assertIs(self.assert_unchanged(house, NoRecorder, house.see, value, thing).given, value)
        for value in odd_values():
            if value not in ("", "Ann", "a b"):
                self.assert_same(self.assert_unchanged(house, BadName, house.see, "ann", value).given, value)
        for value in ("", "Ann", "a b", "ninechars", "a\nb", " a"):
            self.assertEqual(self.assert_unchanged(house, BadName, house.see, "ann", value).given, value)
        self.assertEqual(self.assert_unchanged(house, InUse, house.see, "ann", "b").given, "b")
        house.redo()
        self.assertEqual(house.text(), TEXT)

    def test_strike(self):
        house = some_house()
        self.assertIsNone(house.strike(recorder="bob"))
        self.assertEqual(house.records().text(), "share 2/3\nann 1 a b\ncy 1 b")
        self.assertEqual((house.waiting(), len(house)), (["a", "b"], 6))
        self.assertEqual(self.assert_unchanged(house, NoRecorder, house.see, "bob", "x").given, "bob")
        house.strike("ann")
        self.assert_unchanged(house, LastOne, house.strike, "cy")

    def test_strike_raises_its_errors_in_their_order(self):
        house = House({"ann": 1}, 1)
        house.see("ann", "a")
        house.undo()
        for value in [*odd_values(), "a", "dee"]:
            self.assertIs(self.assert_unchanged(house, NoRecorder, house.strike, value).given, value)
        self.assert_unchanged(house, LastOne, house.strike, "ann")
        house.redo()
        self.assertEqual(house.text(), "see ann a")

    def test_give(self):
        house = some_house()
        found = house.give()
        self.assertEqual(found, [["a"], ["b"]])
        self.assertEqual((house.order(), house.waiting(), len(house)), ([["a"], ["b"]], ["c"], 6))
        found[0].append("x")
        found.append([])
        self.assertEqual(house.order(), [["a"], ["b"]])
        self.assertEqual(house.give(), [])
        self.assertEqual((len(house), house.text()), (7, TEXT + "\ngive\ngive"))

    def test_give_without_what_was_given_out_before(self):
        house = House({"ann": 1, "bob": 1, "cy": 1}, TWO_THIRDS)
        house.take("see ann a\nsee bob a\nsee cy a\ngive")
        self.assertEqual(house.order(), [["a"]])
        house.take("see ann b\nsee bob c\nsee cy d\nsee ann c\nsee bob d\nsee cy b\nsee ann d\nsee bob b\nsee cy c")
        self.assertEqual(first_given(house.records()), [["a"], ["b", "c", "d"]])
        self.assertEqual(house.give(), [["b", "c", "d"]])
        self.assertEqual(house.order(), [["a"], ["b", "c", "d"]])

    def test_give_the_rest_of_a_list(self):
        # With s, b was given out alone; without, a, b and c are a ring.
        house = House({"p": 1, "q": 1, "r": 1, "s": 4}, Ratio(51, 100))
        house.take("see s b\ngive\nsee p a\nsee p b\nsee p c\nsee q b\nsee q c\nsee q a\nsee r c\nsee r a\nsee r b")
        house.strike("s")
        self.assertEqual(house.order(), [["b"]])
        self.assertEqual(first_given(house.records()), [["a", "b", "c"]])
        self.assertEqual(house.give(), [["a", "c"]])
        self.assertEqual(house.order(), [["b"], ["a", "c"]])

    def test_a_thing_that_was_given_out_and_is_in_no_row_any_more(self):
        house = House({"ann": 3, "bob": 1, "cy": 1}, TWO_THIRDS)
        house.take("see ann a\ngive\nsee bob b\nstrike ann")
        self.assertEqual((house.order(), house.waiting(), house.records().things()), ([["a"]], ["b"], ["b"]))
        house.take("see bob a\nsee cy a\nsee cy b")
        self.assertEqual((house.order(), house.waiting()), ([["a"]], ["b"]))
        house.give()
        self.assertEqual(house.order(), [["a"], ["b"]])


class ViewTest(HouseCase):
    def test_told_lists_are_new(self):
        house = some_house()
        house.give()
        for _ in range(2):
            order = house.order()
            self.assertEqual((order, house.waiting()), ([["a"], ["b"]], ["c"]))
            order[0].append("x")
            order.append(["y"])
            house.waiting().append("z")
        house.records().things().append("x")
        self.assertEqual(view(house)[2:5], [[["a"], ["b"]], ["c"], None])

    def test_records_of_before_stay_as_they_were(self):
        house = some_house()
        before = house.records()
        house.see("cy", "a")
        self.assertEqual(before.row("cy"), ["b"])
        self.assertEqual(house.records().row("cy"), ["b", "a"])

    def test_nothing_is_wrong_as_long_as_nobody_is_struck(self):
        chance = random.Random(81)
        given = 0
        for _ in range(150):
            names = list("pqrst")[:chance.randint(1, 5)]
            share = chance.choice([Ratio(51, 100), TWO_THIRDS, Ratio(3, 4)])
            house = House({name: chance.choice([1, 1, 2, Ratio(1, 2)]) for name in names}, share)
            for _ in range(25):
                name = chance.choice(names)
                left = [thing for thing in "abcde" if thing not in house.records().row(name)]
                if left and chance.random() < .8:
                    house.see(name, chance.choice(left[:2]))
                else:
                    house.give()
                self.assertIsNone(house.wrong())
                self.assertIsNone(wrong(house.records(), house.order()))
            given += len(house.order())
        self.assertGreater(given, 150)

    def test_the_first_wrong_pair_after_strikes(self):
        house = House({"p": 5, "q": 1, "r": 1}, TWO_THIRDS)
        house.take("see p d\nsee p c\nsee p b\ngive\nsee q a\nsee q b\nsee q d\nsee r a\nsee r b\nsee r c")
        self.assertEqual((house.order(), house.wrong()), ([["d"], ["c"], ["b"]], None))
        house.strike("p")
        # Now a is ahead of b, c and d, and has not been given out; b is ahead of d and c, which were given out before.
        self.assertEqual(house.records().things(), ["a", "b", "c", "d"])
        self.assertEqual(house.wrong(), ("a", "b"))
        house.take("see q c\nsee r d\ngive")
        self.assertEqual((house.order(), house.wrong()), ([["d"], ["c"], ["b"], ["a"]], ("a", "b")))

    def test_a_pair_in_a_later_list(self):
        house = House({"p": 5, "q": 1, "r": 1}, TWO_THIRDS)
        house.take("see p c\nsee p b\ngive\nsee q b\nsee q c\nsee r b\nsee r c\nstrike p")
        self.assertEqual((house.order(), house.wrong()), ([["c"], ["b"]], ("b", "c")))

    def test_a_thing_that_stands_in_no_row_now_is_not_wrong(self):
        house = House({"p": 5, "q": 1, "r": 1}, TWO_THIRDS)
        house.take("see p b\ngive\nsee q a\nsee r a\nstrike p")
        self.assertEqual((house.order(), house.wrong(), house.waiting()), ([["b"]], None, ["a"]))
        house.see("q", "b")
        self.assertEqual(house.wrong(), ("a", "b"))

    def test_things_that_both_wait_are_not_wrong(self):
        house = House({"p": 1, "q": 1}, 1)
        house.take("see p a\nsee p b\nsee q a\nsee q b")
        self.assertEqual((house.waiting(), house.wrong()), (["a", "b"], None))


class UndoTest(HouseCase):
    def test_nothing_to_undo_and_to_redo(self):
        house = House(THREE, TWO_THIRDS)
        self.assert_unchanged(house, NothingToUndo, house.undo)
        self.assert_unchanged(house, NothingToRedo, house.redo)
        house.give()
        self.assert_unchanged(house, NothingToRedo, house.redo)
        self.assertIsNone(house.undo())
        self.assert_unchanged(house, NothingToUndo, house.undo)
        self.assertIsNone(house.redo())
        self.assert_unchanged(house, NothingToRedo, house.redo)

    def test_to_the_very_views_that_were_there(self):
        house = House({**THREE, "dee": 2}, TWO_THIRDS)
        steps = [line.split(" ") for line in (TEXT + "\ngive\nsee cy c\nsee dee c\ngive\nstrike dee\ngive\nstrike ann").split("\n")]
        views = [view(house)]
        for name, *values in steps:
            getattr(house, name)(*values)
            views.append(view(house))
        for wanted in views[-2::-1]:
            house.undo()
            self.assertEqual(view(house), wanted)
        for wanted in views[1:]:
            house.redo()
            self.assertEqual(view(house), wanted)

    def test_a_new_step_forgets_what_was_taken_back(self):
        for step in (lambda house: house.see("cy", "z"), lambda house: house.give(), lambda house: house.strike("cy"),
                     lambda house: house.take("give"), lambda house: house.take("see cy x\nstrike ann")):
            house = some_house()
            house.undo()
            house.undo()
            step(house)
            self.assert_unchanged(house, NothingToRedo, house.redo)
            while len(house):
                house.undo()
            self.assertEqual(view(house), view(House(THREE, TWO_THIRDS)))

    def test_what_raises_an_error_forgets_nothing(self):
        house = some_house()
        house.undo()
        self.error_of(InUse, house.see, "ann", "a")
        self.error_of(NoRecorder, house.strike, "dee")
        self.error_of(BadLine, house.take, "see cy x\ngive\nsee cy x")
        house.take("")
        house.redo()
        self.assertEqual(house.text(), TEXT)
        self.error_of(NothingToRedo, house.redo)

    def test_a_text_is_taken_back_step_by_step(self):
        house = some_house()
        house.undo()
        self.assertEqual((len(house), house.text()), (4, "see ann a\nsee ann b\nsee bob a\nsee bob c"))

    def test_many_steps_in_any_order(self):
        chance = random.Random(82)
        weights = {"p": 1, "q": 1, "r": Ratio(1, 2), "s": 2}
        for _ in range(60):
            house = House(weights, Ratio(3, 5))
            lines = []
            undone = []
            for _ in range(40):
                name = chance.choice(["see", "see", "see", "see", "give", "strike", "undo", "redo", "redo"])
                records = house.records()
                recorder = chance.choice(records.recorders())
                if name == "undo" and lines:
                    undone.append(lines.pop())
                    house.undo()
                elif name == "redo" and undone:
                    lines.append(undone.pop())
                    house.redo()
                elif name == "see":
                    left = [thing for thing in "abcdef" if thing not in records.row(recorder)]
                    if left:
                        thing = chance.choice(left[:3])
                        house.see(recorder, thing)
                        lines.append(f"see {recorder} {thing}")
                        undone = []
                elif name == "give":
                    lines.append("give")
                    self.assertEqual(house.give(), replayed(weights, Ratio(3, 5), lines)[2])
                    undone = []
                elif name == "strike" and len(records.recorders()) > 1 and chance.random() < .3:
                    house.strike(recorder)
                    lines.append(f"strike {recorder}")
                    undone = []
                records, order, _ = replayed(weights, Ratio(3, 5), lines)
                given = {thing for part in order for thing in part}
                waiting = [thing for thing in records.things() if thing not in given]
                self.assertEqual(
                    view(house), [records.text(), len(lines), order, waiting, wrong(records, order), "\n".join(lines)],
                )


class TriedTest(HouseCase):
    def changed_house(self):
        """A house with steps of its own, of which some were taken back."""
        house = some_house()
        house.give()
        house.see("cy", "c")
        house.undo()
        house.undo()
        return house

    def assert_as_before(self, house):
        """The house is as the changed house, and has what can be done again."""
        self.assertEqual((len(house), house.text()), (5, TEXT))
        house.redo()
        self.assertEqual(house.order(), [["a"], ["b"]])
        house.redo()
        self.assertEqual(house.records().row("cy"), ["b", "c"])
        self.error_of(NothingToRedo, house.redo)
        for _ in range(7):
            house.undo()
        self.error_of(NothingToUndo, house.undo)

    def test_what_the_function_returns(self):
        house = self.changed_house()
        self.assertEqual(house.tried(len), 5)
        self.assertEqual(house.tried(act=lambda given: given.text()), TEXT)
        self.assertIsNone(house.tried(lambda given: given.see("cy", "x")))
        self.assertEqual(house.tried(lambda given: given.give()), [["a"], ["b"]])
        given = []
        house.tried(given.append)
        self.assertIs(given[0], house)
        self.assert_as_before(house)

    def test_steps_undo_and_redo_within(self):
        def act(house):
            house.redo()
            house.undo()
            house.undo()
            house.see("cy", "z")
            house.strike("ann")
            house.take("see cy y\ngive")
            self.assertEqual(house.text().split("\n")[-4:], ["see cy z", "strike ann", "see cy y", "give"])
            self.error_of(NothingToRedo, house.redo)
            while len(house):
                house.undo()
            return "done"

        house = self.changed_house()
        self.assertEqual(house.tried(act), "done")
        self.assert_as_before(house)

    def test_tried_within_tried(self):
        def inner(house):
            house.undo()
            house.see("cy", "y")
            return len(house)

        def outer(house):
            house.see("cy", "x")
            before = view(house)
            self.assertEqual(house.tried(inner), 6)
            self.assertEqual(view(house), before)
            self.error_of(NothingToRedo, house.redo)
            house.undo()
            self.assertEqual(house.tried(lambda given: [given.redo(), given.records().row("cy")]), [None, ["b", "x"]])
            house.redo()
            return house.records().row("cy")

        house = self.changed_house()
        self.assertEqual(house.tried(outer), ["b", "x"])
        self.assert_as_before(house)

    def test_an_error_ends_the_call(self):
        class Other(Exception):
            pass

        def own(house):
            house.undo()
            house.give()
            house.see("ann", "a")

        def other(house):
            house.see("cy", "x")
            house.undo()
            house.undo()
            raise Other("why")

        def nested(house):
            house.give()
            try:
                house.tried(other)
            except Other:
                self.assertEqual(house.text(), TEXT + "\ngive")
                raise

        house = self.changed_house()
        self.assert_given(InUse, "a", house.tried, own)
        self.error_of(Other, house.tried, other)
        self.error_of(Other, house.tried, nested)
        self.error_of(TypeError, house.tried, lambda given: given.undo() + 1)
        self.error_of(NothingToRedo, house.tried, lambda given: [given.redo(), given.redo(), given.redo()])
        self.assert_as_before(house)

    def test_an_empty_house(self):
        house = House(THREE, TWO_THIRDS)
        self.assertEqual(house.tried(lambda given: (given.take(TEXT), len(given))), (None, 5))
        self.assertEqual(view(house), view(House(THREE, TWO_THIRDS)))
        self.error_of(NothingToUndo, house.undo)
        self.error_of(NothingToRedo, house.redo)


class TextTest(HouseCase):
    def assert_line_of(self, house, number, text):
        """The house raises BadLine with this number, and is as it was before, with what can be done again."""
        house.see(house.records().recorders()[0], "zz")
        house.undo()
        found = self.assert_unchanged(house, BadLine, house.take, text)
        self.assert_same(found.line, number)
        house.redo()
        house.undo()

    def test_each_kind_of_step(self):
        house = some_house()
        house.give()
        house.strike("bob")
        house.give()
        text = TEXT + "\ngive\nstrike bob\ngive"
        self.assertEqual(house.text(), text)
        other = House(THREE, TWO_THIRDS)
        self.assertIsNone(other.take(text=text))
        self.assertEqual(view(other), view(house))

    def test_the_empty_text(self):
        house = House(THREE, TWO_THIRDS)
        self.assertEqual(house.text(), "")
        self.assertIsNone(house.take(""))
        self.assertEqual((len(house), house.text()), (0, ""))

    def test_a_house_with_steps_of_its_own(self):
        house = some_house()
        house.take("give\nsee cy c\ngive")
        self.assertEqual((house.order(), len(house)), ([["a"], ["b"], ["c"]], 8))
        self.assert_line_of(house, 2, "see cy x\nsee ann a")
        self.assert_line_of(house, 1, "see cy c")

    def test_lines_that_are_no_steps(self):
        for line in (
            " ", "see", "see ann", "see ann a b", "see  ann a", "see ann  a", " see ann a", "see ann a ", "See ann a",
            "see\tann\ta", "give ", " give", "give a", "Give", "gives", "give give", "strike", "strike ann bob", "strike ",
            " strike ann", "strike  ann", "strike ann ", "undo", "redo", "take", "see,ann,a", "ann a", "a", "len", "order",
            "see ann a\r", "give\r", "\r", "strike see ann",
        ):
            house = House(THREE, TWO_THIRDS)
            self.assert_line_of(house, 1, line)
            self.assert_line_of(house, 1, line + "\ngive")
            self.assert_line_of(house, 3, "see ann a\ngive\n" + line)
            self.assert_line_of(house, 2, "give\n" + line + "\nsee ann a\nnothing")

    def test_lines_whose_step_raises_an_error(self):
        for line in (
            "see dee a", "see a a", "see ann A", "see ann ninechars", "see ann b1", "see ann x", "see bob Ann", "see see see",
            "strike dee", "strike a", "strike Ann",
        ):
            self.assert_line_of(House(THREE, TWO_THIRDS), 2, "see ann x\n" + line)
            self.assert_line_of(House(THREE, TWO_THIRDS), 2, "see ann x\n" + line + "\nsee cy y")
        self.assert_line_of(House({"ann": 1}, 1), 1, "strike ann")
        self.assert_line_of(House(THREE, TWO_THIRDS), 3, "strike cy\nstrike ann\nstrike bob\ngive")
        self.assert_line_of(House(THREE, TWO_THIRDS), 2, "strike cy\nsee cy a")
        self.assert_line_of(House(THREE, TWO_THIRDS), 3, "see cy a\nsee cy b\nsee cy a\nx")

    def test_line_feeds_at_the_ends(self):
        self.assert_line_of(House(THREE, TWO_THIRDS), 2, "give\n")
        self.assert_line_of(House(THREE, TWO_THIRDS), 1, "\ngive")
        self.assert_line_of(House(THREE, TWO_THIRDS), 1, "\n")
        self.assert_line_of(House(THREE, TWO_THIRDS), 2, "give\n\ngive")
        self.assert_line_of(House(THREE, TWO_THIRDS), 2, "see ann a\n")

    def test_names_that_are_words_of_the_text(self):
        house = House({"see": 1, "give": 1, "strike": 1}, TWO_THIRDS)
        house.take("see see see\nsee give give\nsee strike strike\nsee see give\nstrike strike")
        self.assertEqual(house.records().text(), "share 2/3\ngive 1 give\nsee 1 see give")

    def test_a_long_text(self):
        names = ["p", "q", "r", "s", "t", "u", "v", "w"]
        things = [one + "x" for one in "abcdefghijkl"]
        lines = [f"see {name} {thing}" for thing in things for name in names] + ["give"] * 20
        house = House({name: 1 for name in names}, TWO_THIRDS)
        house.take("\n".join(lines))
        self.assertEqual((len(house), house.text()), (116, "\n".join(lines)))
        self.assertEqual(house.order(), [[thing] for thing in things])


class ClassesTest(HouseCase):
    def test_errors_of_a_house_are_errors_of_the_package(self):
        house = House(THREE, TWO_THIRDS)
        for call, values in ((house.undo, ()), (house.redo, ()), (house.take, ("x",)), (house.strike, ("x",))):
            with self.assertRaises(OrderError):
                call(*values)

    def test_two_houses_do_not_share_anything(self):
        one = some_house()
        other = some_house()
        one.give()
        self.assertEqual((len(other), other.order()), (5, []))
