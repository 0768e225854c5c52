"""What may be passed as a name, a weight, a share, a row, a recorder, a thing, a count and the like."""

from fairbatches.errors import BadCount, BadDelay, BadName, BadRing, BadRow, BadShare, BadTimes, BadWeight
from fairbatches.errors import NoRecorder, NoThing
from fairbatches.ratios import Ratio, as_ratio, is_integer, is_number


def is_name(value):
    """Tell whether a value is a string of 1 to 8 letters from a to z."""
    if not isinstance(value, str) or len(value) > 8:
        return False
    return value.isascii() and value.isalpha() and value.islower()


def is_weight(value):
    """Tell whether a value is a number above 0."""
    return is_number(value) and as_ratio(value).top > 0


def is_amount(value):
    """Tell whether a value is a number that is at least 0."""
    return is_number(value) and as_ratio(value).top >= 0


def is_share(value):
    """Tell whether a value is a number above 1/2 and at most 1."""
    return is_number(value) and Ratio(1, 2) < value and value <= 1


def is_list(value):
    """Tell whether a value is a list, or a tuple in place of one."""
    return isinstance(value, (list, tuple))


def is_row(value):
    """Tell whether a value is a list of different names."""
    if not is_list(value):
        return False
    # Names are looked for first: other values may not fit into a set.
    return all([is_name(thing) for thing in value]) and len(set(value)) == len(value)


def is_split(value, names):
    """Tell whether a value is a list of lists in which each of some names, and nothing else, stands exactly once."""
    if not is_list(value) or not all([is_list(part) for part in value]):
        return False
    found = [name for part in value for name in part]
    # Strings are looked for first: an integer can be too long for Python to make a text of it.
    return all([isinstance(name, str) for name in found]) and sorted(found, key=str) == sorted(names, key=str)


def check_weights(weights):
    """Raise an error for the first wrong name or else the first wrong weight of a dict."""
    for recorder in weights:
        if not is_name(recorder):
            raise BadName(recorder)
    for weight in weights.values():
        if not is_weight(weight):
            raise BadWeight(weight)


def check_share(share):
    """Raise an error if a value is not a share."""
    if not is_share(share):
        raise BadShare(share)


def check_row(row):
    """Raise an error if a value is not a row."""
    if not is_row(row):
        raise BadRow(row)


def check_recorders(records, values):
    """Raise an error for the first value of a list that is no recorder of some records."""
    recorders = records.recorders()
    for value in values:
        if value not in recorders:
            raise NoRecorder(value)


def check_things(records, values):
    """Raise an error for the first value of a list that is no thing of some records."""
    things = records.things()
    for value in values:
        if value not in things:
            raise NoThing(value)


def check_pair(records, one, other):
    """Raise an error for the first of two values that is no thing of some records, or the same as the other one."""
    check_things(records, [one, other])
    if one == other:
        raise NoThing(other)


def check_ring(records, value):
    """Raise an error if a value is not a list of at least two things of some records, none of them twice."""
    things = records.things()
    if not is_row(value) or len(value) < 2 or not all([thing in things for thing in value]):
        raise BadRing(value)


def check_count(count, most):
    """Raise an error if a value is not an integer from 1 to the greatest count."""
    if not is_integer(count) or not 1 <= count <= most:
        raise BadCount(count)


def check_bound(weight):
    """Raise an error if a value is not a number that can bound a weight."""
    if not is_amount(weight):
        raise BadWeight(weight)


def check_delay(delay):
    """Raise an error if a value is not a delay."""
    if not is_amount(delay):
        raise BadDelay(delay)


def check_times(records, value):
    """Raise an error if a value is not a dict with a number for each thing of some records."""
    if not isinstance(value, dict):
        raise BadTimes(value)
    things = records.things()
    if len(value) != len(things) or not all([thing in value for thing in things]):
        raise BadTimes(value)
    if not all([is_number(number) for number in value.values()]):
        raise BadTimes(value)
