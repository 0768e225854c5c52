"""Points 2, 6, 7 and 12 to 15: records."""

from fairbatches.errors import BadName, BadRow, BadShare, BadWeight, InUse, LastOne, NoRecorder
from fairbatches.ratios import Ratio
from fairbatches.records import Records
from tests.support import ErrorCase, odd_values

TEXT = "share 2/3\nann 2 tea milk\nbob 1/2 milk\ncy 3"


def some_records():
    """Three recorders, one of them without a row."""
    return Records(
        {"cy": 3, "ann": 2, "bob": Ratio(1, 2)}, Ratio(2, 3), {"bob": ["milk"], "ann": ["tea", "milk"]}
    )


class RecordsCase(ErrorCase):
    def setUp(self):
        self.records = some_records()

    def tearDown(self):
        self.assertEqual(self.records.text(), TEXT)
        self.assertTrue(self.records == some_records())


class ExamplesTest(ErrorCase):
    def test_examples_of_the_interface(self):
        records = Records(
            {"ann": 2, "bob": 1}, Ratio(2, 3), {"ann": ["tea", "milk"], "bob": ["milk"]}
        )
        self.assertEqual(
            (records.recorders(), records.things(), records.whole().text(), records.row("bob"),
             records.weight_of(["ann", "ann"]).text()),
            (["ann", "bob"], ["milk", "tea"], "3", ["milk"], "2"),
        )
        self.assertEqual(
            (records.text(), Records.read(records.text()) == records, records.seen("bob", "tea").row("bob")),
            ("share 2/3\nann 2 tea milk\nbob 1 milk", True, ["milk", "tea"]),
        )
        self.assert_given(InUse, "tea", records.seen, "ann", "tea")


class ConstructorTest(ErrorCase):
    def test_recorders_without_a_row(self):
        records = Records({"ann": 1, "bob": 2}, 1, {})
        self.assertEqual((records.row("ann"), records.row("bob"), records.things()), ([], [], []))

    def test_arguments_by_name(self):
        records = Records(rows={"ann": ["a"]}, share=1, weights={"ann": 4})
        self.assertEqual(records.text(), "share 1\nann 4 a")

    def test_names_of_one_and_of_eight_letters(self):
        records = Records({"a": 1, "zzzzzzzz": 1}, 1, {"a": ["b", "abcdefgh"]})
        self.assertEqual(records.text(), "share 1\na 1 b abcdefgh\nzzzzzzzz 1")

    def test_bad_name(self):
        for key in [None, True, False, 0, 3, "", "Ann", "a b", "ninechars", "an1", "a\n", (), ("ann",), (1, None)]:
            with self.subTest(key=key):
                self.assert_given(BadName, key, Records, {key: 1}, 1, {})
                self.assert_given(BadName, key, Records, {"ann": 1, key: 1, "bob": 1}, 1, {key: []})

    def test_bad_weight(self):
        for weight in [
            None, True, False, 0, -1, Ratio(0), Ratio(-1, 2), "", "1", [], [1], (), (1,), {}, {"ann": 1}, [None],
        ]:
            with self.subTest(weight=weight):
                self.assert_given(BadWeight, weight, Records, {"ann": weight}, 1, {})
                self.assert_given(BadWeight, weight, Records, {"bob": 1, "ann": weight, "cy": 2}, 1, {})

    def test_bad_share(self):
        edge = 10 ** 59
        for share in [*odd_values(), 2, Ratio(edge + 1, edge), Ratio(1, 3), "2/3", [Ratio(2, 3)], (1,), {1: 1}]:
            with self.subTest(share=share):
                self.assert_given(BadShare, share, Records, {"ann": 1}, share, {})

    def test_shares_at_the_edges(self):
        for share in (1, Ratio(1), Ratio(10 ** 59 + 1, 2 * 10 ** 59)):
            self.assertTrue(Records({"ann": 1}, share, {}).share() == share)

    def test_no_recorder(self):
        for key in [None, True, False, 0, 3, "", "Ann", "bob", "an", (), ("ann",), (1, None)]:
            with self.subTest(key=key):
                self.assert_given(NoRecorder, key, Records, {"ann": 1}, 1, {key: []})
                self.assert_given(NoRecorder, key, Records, {"ann": 1}, 1, {"ann": ["a"], key: None})

    def test_bad_row(self):
        for row in [
            None, True, 0, 5, "", "a", "ab", Ratio(1, 2), {}, {"a": 1}, ["a", "a"], ("a", "b", "a"), [""], ["A"],
            ["a", None], [True], [1], [["a"]], [("a", "b")], [["a"], ["a"]], [{}], ["ninechars"], [Ratio(1, 2)],
        ]:
            with self.subTest(row=row):
                self.assert_given(BadRow, row, Records, {"ann": 1}, 1, {"ann": row})
                self.assert_given(BadRow, row, Records, {"bob": 1, "ann": 1}, 1, {"bob": ["a"], "ann": row})

    def test_the_first_of_several_wrong_items(self):
        self.assert_given(BadName, "Z", Records, {"z": 1, "Z": 1, "A": 1}, 1, {})
        self.assert_given(BadWeight, -2, Records, {"z": -2, "b": 0, "a": -1}, 1, {})
        self.assert_given(NoRecorder, "z", Records, {"ann": 1}, 1, {"ann": [], "z": [], "b": []})
        self.assert_given(BadRow, ["Z"], Records, {"a": 1, "b": 1}, 1, {"b": ["Z"], "a": ["A"]})

    def test_the_order_of_the_errors(self):
        self.assert_given(BadName, "B", Records, {"a": 0, "B": 1}, 0, {"c": [], "a": 5})
        self.assert_given(BadWeight, 0, Records, {"a": 0, "b": 1}, 0, {"c": [], "a": 5})
        self.assert_given(BadShare, 0, Records, {"a": 1, "b": 1}, 0, {"c": [], "a": 5})
        self.assert_given(NoRecorder, "c", Records, {"a": 1, "b": 1}, 1, {"a": 5, "c": []})
        self.assert_given(BadRow, 5, Records, {"a": 1, "b": 1}, 1, {"b": [], "a": 5})

    def test_tuples_in_place_of_lists(self):
        records = Records({"ann": 1, "bob": 1}, 1, {"ann": ("b", "a"), "bob": ()})
        self.assertEqual((records.row("ann"), records.row("bob")), (["b", "a"], []))
        self.assertTrue(records == Records({"ann": 1, "bob": 1}, 1, {"ann": ["b", "a"]}))
        self.assertEqual(records.weight_of(("ann", "bob")).text(), "2")
        self.assertEqual(records.with_row("bob", ("c", "a")).row("bob"), ["c", "a"])

    def test_later_changes_to_the_arguments(self):
        weights = {"ann": 1, "bob": 2}
        row = ["b", "a"]
        rows = {"ann": row}
        records = Records(weights, 1, rows)
        weights["ann"] = 9
        weights["cy"] = 9
        del weights["bob"]
        row.append("c")
        rows["bob"] = ["d"]
        self.assertEqual(records.text(), "share 1\nann 1 b a\nbob 2")

    def test_the_arguments_are_not_changed(self):
        weights = {"bob": 2, "ann": 1}
        rows = {"ann": ["b", "a"]}
        Records(weights, 1, rows).seen("ann", "c")
        self.assertEqual((list(weights.items()), rows), ([("bob", 2), ("ann", 1)], {"ann": ["b", "a"]}))


class MethodsTest(RecordsCase):
    def test_recorders_and_things_are_ascending(self):
        self.assertEqual(self.records.recorders(), ["ann", "bob", "cy"])
        self.assertEqual(self.records.things(), ["milk", "tea"])
        other = Records({"b": 1, "ab": 1, "a": 1}, 1, {"b": ["z", "ab"], "a": ["b", "a", "z"]})
        self.assertEqual(other.recorders(), ["a", "ab", "b"])
        self.assertEqual(other.things(), ["a", "ab", "b", "z"])

    def test_weight_whole_and_share(self):
        self.assert_ratio(self.records.weight("ann"), "2")
        self.assert_ratio(self.records.weight(recorder="bob"), "1/2")
        self.assert_ratio(self.records.weight("cy"), "3")
        self.assert_ratio(self.records.whole(), "11/2")
        self.assert_ratio(self.records.share(), "2/3")
        self.assert_ratio(Records({"ann": 1}, 1, {}).share(), "1")

    def test_row(self):
        self.assertEqual(self.records.row("ann"), ["tea", "milk"])
        self.assertEqual(self.records.row(recorder="bob"), ["milk"])
        self.assertEqual(self.records.row("cy"), [])

    def test_weight_and_row_raise_no_recorder(self):
        for value in [*odd_values(), "dee", "an", "milk", "share", ["ann"], {"ann": 2}]:
            with self.subTest(value=value):
                self.assert_given(NoRecorder, value, self.records.weight, value)
                self.assert_given(NoRecorder, value, self.records.row, value)

    def test_returned_lists_are_new(self):
        for call in (self.records.recorders, self.records.things, lambda: self.records.row("ann")):
            found = call()
            wanted = list(found)
            found.append("x")
            del found[0]
            self.assertEqual(call(), wanted)
            self.assertIs(type(call()), list)

    def test_weight_of(self):
        for recorders, text in [
            ([], "0"), (["ann"], "2"), (["cy", "ann"], "5"), (["bob", "bob", "bob"], "1/2"),
            (["ann", "bob", "ann", "cy", "cy"], "11/2"), (("ann", "bob"), "5/2"),
        ]:
            self.assert_ratio(self.records.weight_of(recorders), text)
        self.assert_ratio(self.records.weight_of(recorders=["ann"]), "2")

    def test_weight_of_raises_no_recorder(self):
        for value in [*odd_values(), "dee", ["ann"]]:
            with self.subTest(value=value):
                self.assert_given(NoRecorder, value, self.records.weight_of, [value])
                self.assert_given(NoRecorder, value, self.records.weight_of, ["ann", "ann", value, "zed", None])

    def test_weight_of_does_not_change_its_argument(self):
        recorders = ["cy", "ann", "cy"]
        self.records.weight_of(recorders)
        self.assertEqual(recorders, ["cy", "ann", "cy"])

    def test_equal_records(self):
        for other in [
            some_records(),
            Records.read(TEXT),
            Records(
                {"bob": Ratio(2, 4), "ann": Ratio(2), "cy": 3}, Ratio(4, 6),
                {"cy": [], "ann": ("tea", "milk"), "bob": ["milk"]},
            ),
            self.records.seen("cy", "a").with_row("cy", []),
            self.records.with_share(1).with_share(Ratio(2, 3)),
        ]:
            self.assertIs(self.records == other, True)
            self.assertIs(self.records != other, False)

    def test_unequal_records(self):
        for text in [
            "share 3/4\nann 2 tea milk\nbob 1/2 milk\ncy 3",
            "share 2/3\nann 1 tea milk\nbob 1/2 milk\ncy 3",
            "share 2/3\nann 2 milk tea\nbob 1/2 milk\ncy 3",
            "share 2/3\nann 2 tea\nbob 1/2 milk\ncy 3",
            "share 2/3\nann 2 tea milk\nbob 1/2 milk\ndee 3",
            "share 2/3\nann 2 tea milk\nbob 1/2 milk",
            "share 2/3\nann 2 tea milk\nbob 1/2 milk\ncy 3\ndee 1",
        ]:
            other = Records.read(text)
            self.assertIs(self.records == other, False, text)
            self.assertIs(other == self.records, False, text)
            self.assertIs(self.records != other, True, text)

    def test_records_do_not_equal_other_values(self):
        for value in [*odd_values(), TEXT]:
            self.assertIs(self.records == value, False)
            self.assertIs(value == self.records, False)


class ChangesTest(RecordsCase):
    def test_seen(self):
        other = self.records.seen("bob", "tea")
        self.assertIs(type(other), Records)
        self.assertEqual(other.text(), "share 2/3\nann 2 tea milk\nbob 1/2 milk tea\ncy 3")
        self.assertEqual(other.seen(thing="a", recorder="bob").row("bob"), ["milk", "tea", "a"])
        self.assertEqual(self.records.seen("cy", "new").things(), ["milk", "new", "tea"])

    def test_seen_raises_its_errors_in_their_order(self):
        for value in [*odd_values(), "dee"]:
            self.assert_given(NoRecorder, value, self.records.seen, value, "a")
            self.assert_given(NoRecorder, value, self.records.seen, value, None)
        for value in [*odd_values(), ["a"]]:
            self.assert_given(BadName, value, self.records.seen, "cy", value)
        self.assert_given(InUse, "milk", self.records.seen, "ann", "milk")
        self.assert_given(InUse, "milk", self.records.seen, "bob", "milk")

    def test_with_row(self):
        other = self.records.with_row("ann", ["b", "a", "tea"])
        self.assertIs(type(other), Records)
        self.assertEqual(other.text(), "share 2/3\nann 2 b a tea\nbob 1/2 milk\ncy 3")
        self.assertEqual(self.records.with_row(row=(), recorder="ann").things(), ["milk"])
        self.assertEqual(self.records.with_row("cy", ("x", "a")).row("cy"), ["x", "a"])

    def test_later_changes_to_the_row(self):
        row = ["a", "b"]
        other = self.records.with_row("cy", row)
        row.append("c")
        self.assertEqual(other.row("cy"), ["a", "b"])

    def test_with_row_raises_its_errors_in_their_order(self):
        for value in [*odd_values(), "dee"]:
            self.assert_given(NoRecorder, value, self.records.with_row, value, [])
            self.assert_given(NoRecorder, value, self.records.with_row, value, None)
        for row in [None, True, 3, "", "abc", {}, {"a": 1}, ["a", "a"], ("a", "a"), ["A"], [None], [["a"]], [{}], [""]]:
            self.assert_given(BadRow, row, self.records.with_row, "ann", row)
            self.assert_given(BadRow, row, self.records.with_row, "cy", row)

    def test_with_share(self):
        other = self.records.with_share(Ratio(3, 4))
        self.assertIs(type(other), Records)
        self.assertEqual(other.text(), "share 3/4\nann 2 tea milk\nbob 1/2 milk\ncy 3")
        self.assert_ratio(self.records.with_share(share=1).share(), "1")

    def test_with_share_raises_bad_share(self):
        for value in [*odd_values(), 2, Ratio(1, 3), Ratio(5, 4), "2/3"]:
            self.assert_given(BadShare, value, self.records.with_share, value)

    def test_without(self):
        other = self.records.without("ann")
        self.assertIs(type(other), Records)
        self.assertEqual(other.text(), "share 2/3\nbob 1/2 milk\ncy 3")
        self.assertEqual(other.things(), ["milk"])
        self.assert_ratio(other.whole(), "7/2")
        self.assertEqual(other.without(recorder="bob").text(), "share 2/3\ncy 3")
        self.assertEqual(self.records.without("bob").text(), "share 2/3\nann 2 tea milk\ncy 3")
        self.assertEqual(self.records.without("cy").text(), "share 2/3\nann 2 tea milk\nbob 1/2 milk")
        self.assert_given(NoRecorder, "ann", other.row, "ann")

    def test_without_raises_its_errors_in_their_order(self):
        only = Records({"ann": 1}, 1, {"ann": ["a"]})
        for value in [*odd_values(), "dee"]:
            self.assert_given(NoRecorder, value, self.records.without, value)
            self.assert_given(NoRecorder, value, only.without, value)
        self.error_of(LastOne, only.without, "ann")
        self.assertEqual(only.text(), "share 1\nann 1 a")


class TextTest(RecordsCase):
    def test_text(self):
        self.assertIs(type(self.records.text()), str)
        self.assertEqual(Records({"ann": Ratio(10, 4)}, 1, {}).text(), "share 1\nann 5/2")

    def test_read_returns_the_records_with_a_text(self):
        for text in [
            TEXT, "share 1\na 1", "share 3/5\nabcdefgh 1/1000 b a\nabcdefgi 7",
            "share 1\nrow 1 share\nshare 2/3 row\nshared 3 share shared", "share 1\na 1 a\naa 1 a\nb 1 a",
        ]:
            read = Records.read(text)
            self.assertIs(type(read), Records)
            self.assertEqual(read.text(), text)
        self.assertTrue(Records.read(text=TEXT) == self.records)

    def test_read_and_text_with_many_recorders_and_things(self):
        names = [one + other for one in "abc" for other in "abcdefgh"]
        weights = {name: Ratio(10 ** 59 + at, 10 ** 59 - 1) for at, name in enumerate(names)}
        records = Records(weights, Ratio(10 ** 59, 10 ** 59 + 1), {name: names[at:] for at, name in enumerate(names)})
        self.assertTrue(Records.read(records.text()) == records)

    def test_wrong_first_lines(self):
        for line in [
            "", " ", "share", "share ", " share 1", "share  1", "share 1 ", "share 1 a", "share 1 1", "Share 1",
            "shares 1", "hare 1", "share 1/2", "share 2", "share 3/2", "share 0", "share -1", "share -2/3", "share 4/6",
            "share 2/2", "share 1/1", "share 01", "share +1", "share 2/3/4", "share a", "share1", "1", "1 share",
            "ann 1", "share\t1", "share 1\t", "share 2 /3",
        ]:
            for rest in ("", "\nann 1", "\nann 1\nbob 1 a", "\n"):
                with self.subTest(line=line, rest=rest):
                    self.assert_line(1, Records.read, line + rest)

    def test_wrong_lines_of_recorders(self):
        for line in [
            "", " ", "cy", "cy ", " cy 1", "cy  1", "cy 1 ", "cy 1  a", "cy 1 a ", "cy a", "cy a 1", "cy 0", "cy -1",
            "cy -1/2", "cy 2/4", "cy 1/1", "cy 01", "cy +1", "cy 1 a a", "cy 1 a b a", "cy 1 A", "cy 1 a1", "cy 1 1",
            "cy 1 a-b", "cy 1 abcdefghi", "Cy 1", "c1 1", "cyabcdefg 1", "1 1", "1", "cy 1\ta", "cy\t1", "cy 1,a",
            "cy 1/0", "cy 0/1", "cy 1 a,b", "bob 1", "bob 3 c", "ann 1", "bo 1", "a 1", "ann 2 tea",
        ]:
            for rest in ("", "\ndee 1", "\ndee 1 a\nA", "\n"):
                with self.subTest(line=line, rest=rest):
                    self.assert_line(4, Records.read, "share 1\nann 1 a b\nbob 2\n" + line + rest)

    def test_wrong_second_lines(self):
        for line in ("", " ", "ann", "share 2/4", "Ann 1", "ann 0", "ann 1 a a"):
            self.assert_line(2, Records.read, "share 2/3\n" + line)
            self.assert_line(2, Records.read, "share 2/3\n" + line + "\nbob 1")

    def test_the_first_wrong_line_counts(self):
        self.assert_line(1, Records.read, "share 2\nA 1\nb 0")
        self.assert_line(2, Records.read, "share 1\nA 1\nb 0")
        self.assert_line(3, Records.read, "share 1\na 1\nb 0\na 1")
        self.assert_line(3, Records.read, "share 1\nb 1\na 1\nc 0")
        self.assert_line(4, Records.read, "share 1\na 1\nb 1\nb 1\nc 0")
        self.assert_line(4, Records.read, "share 1\na 1\nc 1\nb 1")

    def test_no_line_of_a_recorder(self):
        self.assert_line(2, Records.read, "share 1")
        self.assert_line(2, Records.read, "share 2/3")

    def test_an_empty_text_has_one_line(self):
        self.assert_line(1, Records.read, "")
        self.assert_line(1, Records.read, "\n")

    def test_a_line_feed_at_the_end(self):
        self.assert_line(2, Records.read, "share 1\n")
        self.assert_line(3, Records.read, "share 1\na 1\n")
        self.assert_line(5, Records.read, TEXT + "\n")
        self.assert_line(5, Records.read, TEXT + "\n\n")
        self.assert_line(1, Records.read, "\n" + TEXT)
        self.assert_line(3, Records.read, "share 1\na 1\n\nb 1")
