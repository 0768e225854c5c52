"""The errors of the package."""


class OrderError(ValueError):
    """Any error of the package."""


class ByZero(OrderError):
    """A quotient by 0."""


class BadText(OrderError):
    """A text is not the text of a Ratio."""


class NoWay(OrderError):
    """What is asked for cannot be."""


class LastOne(OrderError):
    """The only recorder cannot be taken out."""


class UnlikeRecords(OrderError):
    """Records do not fit other records."""


class NothingToUndo(OrderError):
    """No step is left to take back."""


class NothingToRedo(OrderError):
    """No step is left to do again."""


class BadNumber(OrderError):
    """A value is not a number."""

    def __init__(self, given):
        self.given = given


class BadName(OrderError):
    """A value is not a name."""

    def __init__(self, given):
        self.given = given


class BadWeight(OrderError):
    """A value is not a weight that is allowed here."""

    def __init__(self, given):
        self.given = given


class BadShare(OrderError):
    """A value is not a number above 1/2 and at most 1."""

    def __init__(self, given):
        self.given = given


class BadRow(OrderError):
    """A value is not a list of different names."""

    def __init__(self, given):
        self.given = given


class BadOrder(OrderError):
    """A value is not an order of all things."""

    def __init__(self, given):
        self.given = given


class BadCount(OrderError):
    """A value is not a count that is allowed here."""

    def __init__(self, given):
        self.given = given


class BadRing(OrderError):
    """A value is not a list that could be a ring."""

    def __init__(self, given):
        self.given = given


class BadDelay(OrderError):
    """A value is not a number that is at least 0."""

    def __init__(self, given):
        self.given = given


class BadTimes(OrderError):
    """A value is not a dict of times for all things."""

    def __init__(self, given):
        self.given = given


class BadWish(OrderError):
    """A value is not a wish."""

    def __init__(self, given):
        self.given = given


class NoRecorder(OrderError):
    """A value is no recorder."""

    def __init__(self, given):
        self.given = given


class NoThing(OrderError):
    """A value is no thing, or not another one."""

    def __init__(self, given):
        self.given = given


class InUse(OrderError):
    """A thing has been seen already."""

    def __init__(self, given):
        self.given = given


class BadLine(OrderError):
    """A line of a text, counted from 1, cannot stand there."""

    def __init__(self, line):
        self.line = line
