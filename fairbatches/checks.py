"""What may be passed as a name, a weight, a share, a row, a thing or a count."""

from fairbatches.errors import BadCount, BadName, BadRow, BadShare, BadWeight, NoThing
from fairbatches.ratios import Ratio, as_ratio, is_integer, is_number


def is_name(value):
    """Tell whether a value is a string of 1 to 8 letters from a to z."""
    if not isinstance(value, str) or len(value) > 8:
        return False
    return value.isascii() and value.isalpha() and value.islower()


def is_weight(value):
    """Tell whether a value is a number above 0."""
    return is_number(value) and as_ratio(value).top > 0


def is_share(value):
    """Tell whether a value is a number above 1/2 and at most 1."""
    return is_number(value) and Ratio(1, 2) < value and value <= 1


def is_list(value):
    """Tell whether a value is a list, or a tuple in place of one."""
    return isinstance(value, (list, tuple))


def is_row(value):
    """Tell whether a value is a list of different names."""
    if not is_list(value):
        return False
    # Names are looked for first: other values may not fit into a set.
    return all([is_name(thing) for thing in value]) and len(set(value)) == len(value)


def is_split(value, names):
    """Tell whether a value is a list of lists in which each of some names, and nothing else, stands exactly once."""
    if not is_list(value) or not all([is_list(part) for part in value]):
        return False
    found = [name for part in value for name in part]
    # Strings are looked for first: an integer can be too long for Python to make a text of it.
    return all([isinstance(name, str) for name in found]) and sorted(found, key=str) == sorted(names, key=str)


def check_weights(weights):
    """Raise an error for the first wrong name or else the first wrong weight of a dict."""
    for recorder in weights:
        if not is_name(recorder):
            raise BadName(recorder)
    for weight in weights.values():
        if not is_weight(weight):
            raise BadWeight(weight)


def check_share(share):
    """Raise an error if a value is not a share."""
    if not is_share(share):
        raise BadShare(share)


def check_row(row):
    """Raise an error if a value is not a row."""
    if not is_row(row):
        raise BadRow(row)


def check_things(records, values):
    """Raise an error for the first value of a list that is no thing of some records."""
    things = records.things()
    for value in values:
        if value not in things:
            raise NoThing(value)


def check_count(count, most):
    """Raise an error if a value is not an integer from 1 to the greatest count."""
    if not is_integer(count) or not 1 <= count <= most:
        raise BadCount(count)
