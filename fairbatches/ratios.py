"""Exact numbers: quotients of two integers."""

from math import gcd, lcm

from fairbatches.errors import BadNumber, BadText, ByZero


class Ratio:
    """A quotient of two integers; it never changes."""

    def __init__(self, top, bottom=1):
        if bottom == 0:
            raise ByZero()
        common = gcd(top, bottom)
        if bottom < 0:
            common = -common
        self._top = top // common
        self._bottom = bottom // common

    @classmethod
    def read(cls, text):
        """Return the Ratio with a text."""
        top, slash, bottom = text.partition("/")
        if not slash:
            bottom = "1"
        if not (top.removeprefix("-").isdecimal() and bottom.isdecimal()):
            raise BadText()
        if int(bottom) == 0:
            raise BadText()
        ratio = cls(int(top), int(bottom))
        # A Ratio has one text only, so any other way to write it is wrong.
        if ratio.text() != text:
            raise BadText()
        return ratio

    @property
    def top(self):
        """The top in lowest terms."""
        return self._top

    @property
    def bottom(self):
        """The bottom in lowest terms, above 0."""
        return self._bottom

    def __add__(self, other):
        right = as_ratio(other)
        return Ratio(self._top * right.bottom + right.top * self._bottom, self._bottom * right.bottom)

    def __sub__(self, other):
        right = as_ratio(other)
        return Ratio(self._top * right.bottom - right.top * self._bottom, self._bottom * right.bottom)

    def __mul__(self, other):
        right = as_ratio(other)
        return Ratio(self._top * right.top, self._bottom * right.bottom)

    def __neg__(self):
        return Ratio(-self._top, self._bottom)

    def __eq__(self, other):
        if isinstance(other, Ratio):
            return self._top == other.top and self._bottom == other.bottom
        return is_integer(other) and self._bottom == 1 and self._top == other

    def __lt__(self, other):
        right = as_ratio(other)
        return self._top * right.bottom < right.top * self._bottom

    def __le__(self, other):
        right = as_ratio(other)
        return self._top * right.bottom <= right.top * self._bottom

    def over(self, number):
        """Return the quotient by a number."""
        right = as_ratio(number)
        return Ratio(self._top * right.bottom, self._bottom * right.top)

    def text(self):
        """Return the text, such as -2/5 or 3."""
        if self._bottom == 1:
            return str(self._top)
        return f"{self._top}/{self._bottom}"


def is_integer(value):
    """Tell whether a value is an integer other than True and False."""
    return isinstance(value, int) and not isinstance(value, bool)


def is_number(value):
    """Tell whether a value is an integer or a Ratio."""
    return isinstance(value, Ratio) or is_integer(value)


def as_ratio(given):
    """Return the Ratio that is equal to a number."""
    if isinstance(given, Ratio):
        return given
    if not is_integer(given):
        raise BadNumber(given)
    return Ratio(given)


def lesser(one, other):
    """Return the less one of two numbers."""
    left = as_ratio(one)
    right = as_ratio(other)
    return left if left <= right else right


def greater(one, other):
    """Return the greater one of two numbers."""
    left = as_ratio(one)
    right = as_ratio(other)
    return right if left <= right else left


def total(numbers):
    """Return the sum of a list of numbers."""
    found = Ratio(0)
    for number in numbers:
        found = found + number
    return found


def raised(number, exponent):
    """Return the product of so many equal numbers."""
    base = as_ratio(number)
    top = 1
    bottom = 1
    for _ in range(exponent):
        top = top * base.top
        bottom = bottom * base.bottom
    return Ratio(top, bottom)


def proportional(numbers):
    """Return integers that are to one another as the numbers of a list are."""
    ratios = [as_ratio(number) for number in numbers]
    common = 1
    for ratio in ratios:
        common = lcm(common, ratio.bottom)
    return [ratio.top * (common // ratio.bottom) for ratio in ratios]
