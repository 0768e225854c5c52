"""What may be passed as a name, a weight, a share or a row."""

from fairbatches.errors import BadName, BadRow, BadShare, BadWeight
from fairbatches.ratios import Ratio, as_ratio, is_number


def is_name(value):
    """Tell whether a value is a string of 1 to 8 letters from a to z."""
    if not isinstance(value, str) or len(value) > 8:
        return False
    return value.isascii() and value.isalpha() and value.islower()


def is_weight(value):
    """Tell whether a value is a number above 0."""
    return is_number(value) and as_ratio(value).top > 0


def is_share(value):
    """Tell whether a value is a number above 1/2 and at most 1."""
    return is_number(value) and Ratio(1, 2) < value and value <= 1


def is_row(value):
    """Tell whether a value is a list of different names."""
    if not isinstance(value, (list, tuple)):
        return False
    # Names are looked for first: other values may not fit into a set.
    return all([is_name(thing) for thing in value]) and len(set(value)) == len(value)


def check_weights(weights):
    """Raise an error for the first wrong name or else the first wrong weight of a dict."""
    for recorder in weights:
        if not is_name(recorder):
            raise BadName(recorder)
    for weight in weights.values():
        if not is_weight(weight):
            raise BadWeight(weight)


def check_share(share):
    """Raise an error if a value is not a share."""
    if not is_share(share):
        raise BadShare(share)


def check_row(row):
    """Raise an error if a value is not a row."""
    if not is_row(row):
        raise BadRow(row)
