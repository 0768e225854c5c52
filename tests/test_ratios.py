"""Points 10 and 11: ratios."""

from fractions import Fraction

from fairbatches.errors import BadNumber, BadText, ByZero
from fairbatches.ratios import Ratio, as_ratio, greater, lesser, proportional, raised, total
from tests.support import ErrorCase

BIG = 10 ** 59 + 9
SMALL_RATIOS = [(top, bottom) for top in range(-6, 7) for bottom in (1, 2, 3, 4)]
NO_NUMBERS = [
    None, True, False, "", "1", "1/2", "half", [], [1], [Ratio(1, 2)], (), (1, 2), {}, {1: 2}, [[None]],
]
WRONG_TEXTS = [
    "", " ", "-", "/", "+3", "+1/2", "-0", "00", "01", "-01", "007/2", "1/02", "-0/3", "0/1", "0/2", "2/1", "-3/1",
    "1/0", "0/0", "-1/0", "1/00", "2/4", "-2/4", "6/3", "1/-2", "-1/-2", "--1", "1/+2", "1//2", "1/2/3", "1/", "/2",
    "-/2", " 1", "1 ", "1 /2", "1/ 2", "1/2 ", "- 1", "1\n", "\n1", "1/2\n", "1.5", "1.0", "1,5", "1e3", "1_000",
    "0x10", "a", "1a", "a/b", "half", "True", "None", "1-", "1-2", "(1)", "1/2-",
]


class RatioTest(ErrorCase):
    def test_examples_of_the_interface(self):
        half = Ratio(-3, -6)
        self.assertEqual(
            (half.top, half.bottom, (half - 2).text(), half.over(Ratio(3, 4)).text(), half <= Ratio(1, 2),
             raised(half, 3).text()),
            (1, 2, "-3/2", "2/3", True, "1/8"),
        )
        self.assertEqual(
            (lesser(half, 1) == half, greater(-half, -1).text(), total([half, 1, half]).text(),
             Ratio.read("-7/3").bottom),
            (True, "-1/2", "2", 3),
        )
        self.assert_given(BadNumber, "1/2", as_ratio, "1/2")

    def test_lowest_terms_and_the_sign_of_the_bottom(self):
        for top, bottom, wanted in [
            (6, 4, (3, 2)), (-6, 4, (-3, 2)), (6, -4, (-3, 2)), (-6, -4, (3, 2)), (0, 7, (0, 1)), (0, -7, (0, 1)),
            (8, 4, (2, 1)), (8, -4, (-2, 1)), (1, -1, (-1, 1)), (5, 3, (5, 3)), (BIG * 6, BIG * 4, (3, 2)),
            (BIG, -BIG, (-1, 1)),
        ]:
            with self.subTest(top=top, bottom=bottom):
                ratio = Ratio(top, bottom)
                self.assert_same(ratio.top, wanted[0])
                self.assert_same(ratio.bottom, wanted[1])

    def test_arguments_by_name_and_by_default(self):
        self.assert_ratio(Ratio(7), "7")
        self.assert_ratio(Ratio(top=4, bottom=6), "2/3")
        self.assert_ratio(Ratio(bottom=-2, top=5), "-5/2")
        self.assert_ratio(Ratio(top=-5), "-5")
        self.assert_ratio(Ratio(1).over(number=2), "1/2")
        self.assert_ratio(Ratio.read(text="1/2"), "1/2")
        self.assert_ratio(as_ratio(given=2), "2")
        self.assert_ratio(lesser(other=1, one=2), "1")
        self.assert_ratio(greater(other=1, one=2), "2")
        self.assert_ratio(total(numbers=[1, 2]), "3")
        self.assert_ratio(raised(exponent=2, number=3), "9")

    def test_the_constructor_raises_by_zero(self):
        for top in (0, 1, -3, BIG):
            self.error_of(ByZero, Ratio, top, 0)
        self.error_of(ByZero, Ratio, top=1, bottom=0)

    def test_it_never_changes(self):
        ratio = Ratio(2, 3)
        for name in ("top", "bottom"):
            with self.assertRaises(AttributeError):
                setattr(ratio, name, 5)
        ratio + 1, ratio - 1, ratio * 3, -ratio, ratio.over(2), ratio == 1, ratio < 1, ratio <= 1, ratio.text()
        raised(ratio, 4), total([ratio, ratio]), lesser(ratio, 0), greater(ratio, 5)
        self.assertEqual((ratio.top, ratio.bottom), (2, 3))

    def check_against_fractions(self, left, right, number):
        """Compare all operations with a number on the right, whose value is known as a Fraction."""
        ratio = Ratio(left.numerator, left.denominator)
        for found, wanted in [
            (ratio + number, left + right), (ratio - number, left - right), (ratio * number, left * right),
            (-ratio, -left), (lesser(ratio, number), min(left, right)), (greater(ratio, number), max(left, right)),
            (lesser(number, ratio), min(left, right)), (greater(number, ratio), max(left, right)),
            (total([ratio, number, number]), left + right + right),
        ]:
            self.assert_ratio(found, str(wanted))
        self.assertIs(ratio == number, left == right)
        self.assertIs(ratio != number, left != right)
        self.assertIs(number == ratio, left == right)
        self.assertIs(ratio < number, left < right)
        self.assertIs(ratio <= number, left <= right)
        if right == 0:
            self.error_of(ByZero, ratio.over, number)
        else:
            self.assert_ratio(ratio.over(number), str(left / right))

    def test_operations_with_a_ratio_on_the_right(self):
        for one in SMALL_RATIOS:
            for other in SMALL_RATIOS:
                self.check_against_fractions(Fraction(*one), Fraction(*other), Ratio(*other))

    def test_operations_with_an_integer_on_the_right(self):
        for one in SMALL_RATIOS:
            for number in range(-4, 5):
                self.check_against_fractions(Fraction(*one), Fraction(number), number)

    def test_operations_with_many_digits(self):
        for number in (BIG, -BIG, 1, 0):
            self.check_against_fractions(Fraction(BIG, BIG - 2), Fraction(number), number)
        near = Fraction(BIG + 1, BIG)
        self.check_against_fractions(Fraction(BIG, BIG - 1), near, Ratio(BIG + 1, BIG))
        self.check_against_fractions(near, near, Ratio(-BIG - 1, -BIG))

    def test_equality_with_numbers(self):
        self.assertTrue(Ratio(2, 4) == Ratio(-1, -2))
        self.assertTrue(Ratio(6, 3) == 2)
        self.assertTrue(2 == Ratio(2))
        self.assertTrue(Ratio(0, -3) == 0)
        self.assertFalse(Ratio(1, 2) == 1)
        self.assertFalse(Ratio(1, 2) == 0)
        self.assertFalse(Ratio(1, 2) == Ratio(1, 3))
        self.assertFalse(Ratio(1, 2) == Ratio(3, 2))
        self.assertFalse(Ratio(1) == -1)
        self.assertFalse(Ratio(1) != 1)
        self.assertTrue(Ratio(1) != 2)

    def test_equality_with_other_values(self):
        for ratio in (Ratio(0), Ratio(1), Ratio(1, 2)):
            for value in [*NO_NUMBERS, ratio.text(), [ratio], (1, 2), {"top": 1, "bottom": 2}]:
                with self.subTest(ratio=ratio.text(), value=value):
                    self.assertIs(ratio == value, False)
                    self.assertIs(value == ratio, False)
                    self.assertIs(ratio != value, True)

    def test_over_raises_by_zero(self):
        for zero in (0, Ratio(0), Ratio(0, -4), Ratio(1, 2) - Ratio(1, 2)):
            self.error_of(ByZero, Ratio(1, 2).over, zero)
            self.error_of(ByZero, Ratio(0).over, zero)
        self.assert_ratio(Ratio(0).over(-5), "0")
        self.assert_ratio(Ratio(1, 2).over(Ratio(-1, 3)), "-3/2")


class TextTest(ErrorCase):
    def test_text(self):
        for top, bottom, text in [
            (0, 1, "0"), (0, -9, "0"), (3, 1, "3"), (-3, 1, "-3"), (-2, 5, "-2/5"), (2, -5, "-2/5"), (10, 4, "5/2"),
            (100, 1, "100"), (1, 10, "1/10"), (BIG, BIG + 1, f"{BIG}/{BIG + 1}"), (-BIG, 1, f"-{BIG}"),
        ]:
            with self.subTest(text=text):
                self.assertEqual(Ratio(top, bottom).text(), text)
                self.assertIs(type(Ratio(top, bottom).text()), str)

    def test_read_returns_the_ratio_with_a_text(self):
        for top, bottom in [*SMALL_RATIOS, (BIG, BIG - 1), (-BIG, 7), (100, 1), (-100, 101)]:
            read = Ratio.read(Ratio(top, bottom).text())
            self.assertIs(type(read), Ratio)
            self.assertTrue(read == Ratio(top, bottom))
            self.assert_same((read.top, read.bottom), (Ratio(top, bottom).top, Ratio(top, bottom).bottom))

    def test_read_and_text_with_4000_digits(self):
        long = Ratio(10 ** 3999 + 7, 10 ** 3999 + 9)
        self.assertTrue(Ratio.read(long.text()) == long)
        self.assertTrue(Ratio.read("-" + "9" * 3999) == -Ratio(10 ** 3999 - 1))

    def test_texts_of_no_ratio(self):
        for text in WRONG_TEXTS:
            with self.subTest(text=text):
                self.error_of(BadText, Ratio.read, text)

    def test_every_short_text(self):
        """Just the texts of Ratios can be read, among all short texts of some characters."""
        right = {Ratio(top, bottom).text() for top in range(-99, 1000) for bottom in range(1, 10)}
        signs = "01249-+/ "
        texts = [one + two + three for one in ["", *signs] for two in ["", *signs] for three in ["", *signs]]
        for text in texts:
            if text in right:
                self.assertEqual(Ratio.read(text).text(), text)
            else:
                self.error_of(BadText, Ratio.read, text)


class FunctionsTest(ErrorCase):
    def test_as_ratio(self):
        for given, text in [(3, "3"), (0, "0"), (-BIG, f"-{BIG}"), (Ratio(4, 6), "2/3"), (Ratio(-5), "-5")]:
            self.assert_ratio(as_ratio(given), text)

    def test_as_ratio_raises_bad_number(self):
        for value in NO_NUMBERS:
            with self.subTest(value=value):
                self.assert_given(BadNumber, value, as_ratio, value)

    def test_lesser_and_greater(self):
        self.assert_ratio(lesser(2, 3), "2")
        self.assert_ratio(lesser(3, 2), "2")
        self.assert_ratio(greater(2, 3), "3")
        self.assert_ratio(greater(3, 2), "3")
        self.assert_ratio(lesser(-1, Ratio(-1, 2)), "-1")
        self.assert_ratio(greater(-1, Ratio(-1, 2)), "-1/2")
        self.assert_ratio(lesser(Ratio(1, 3), Ratio(1, 2)), "1/3")
        self.assert_ratio(greater(Ratio(1, 3), Ratio(1, 2)), "1/2")
        self.assert_ratio(lesser(1, Ratio(1)), "1")
        self.assert_ratio(greater(1, 1), "1")

    def test_total(self):
        self.assert_ratio(total([]), "0")
        self.assert_ratio(total(()), "0")
        self.assert_ratio(total([5]), "5")
        self.assert_ratio(total((1, Ratio(1, 2), -3)), "-3/2")
        self.assert_ratio(total([Ratio(1, 3)] * 3), "1")

    def test_total_does_not_change_its_argument(self):
        numbers = [1, Ratio(1, 2)]
        total(numbers)
        self.assert_same(numbers[0], 1)
        self.assertEqual(numbers, [1, Ratio(1, 2)])

    def test_raised(self):
        self.assert_ratio(raised(Ratio(2, 3), 0), "1")
        self.assert_ratio(raised(0, 0), "1")
        self.assert_ratio(raised(0, 200), "0")
        self.assert_ratio(raised(7, 1), "7")
        self.assert_ratio(raised(Ratio(-2, 3), 3), "-8/27")
        self.assert_ratio(raised(Ratio(-2, 3), 4), "16/81")
        self.assert_ratio(raised(-1, 200), "1")
        self.assert_ratio(raised(-1, 199), "-1")
        self.assert_ratio(raised(Ratio(3, 2), 200), f"{3 ** 200}/{2 ** 200}")

    def test_raised_with_many_digits(self):
        found = raised(Ratio(-BIG, BIG - 1), 200)
        self.assert_same((found.top, found.bottom), (BIG ** 200, (BIG - 1) ** 200))


class ProportionalTest(ErrorCase):
    def test_integers_that_are_to_one_another_as_the_numbers_are(self):
        for numbers, wanted in [
            ([], []), ([3], [3]), ([Ratio(2, 3)], [2]), ([Ratio(1, 2), Ratio(1, 3), 1, 0], [3, 2, 6, 0]),
            ([Ratio(-1, 4), Ratio(5, 6)], [-3, 10]), ([2, 4], [2, 4]), ([Ratio(1, BIG), 1], [1, BIG]),
        ]:
            found = proportional(numbers)
            self.assertEqual(found, wanted)
            self.assertEqual([type(number) for number in found], [int] * len(wanted))
