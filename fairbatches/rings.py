"""How long rings can be with given weights and shares."""

from fairbatches.checks import check_count, check_share, check_weights, is_row, is_share, is_split
from fairbatches.errors import BadRing, NoWay
from fairbatches.ratios import Ratio, proportional, total
from fairbatches.records import Records

MOST_LOTS = 60


def lots(weights, share, count):
    """Return a parting into so many lots, and None if there is none."""
    _check_lots(weights, share, count)
    return _parting(weights, share, count)


def is_parting(weights, share, count, value):
    """Tell whether any value is a parting into so many lots."""
    _check_lots(weights, share, count)
    if not is_split(value, weights) or len(value) != count:
        return False
    most = _most_of_a_lot(weights, share)
    return all([total([weights[recorder] for recorder in lot]) <= most for lot in value])


def least_ring(weights, share):
    """Return the least number of lots into which there is a parting, and None if there is none."""
    check_weights(weights)
    check_share(share)
    found = _fewest_lots(weights, share)
    return None if found is None else len(found)


def ring_rows(weights, share, things):
    """Return records with these weights and this share, in which a list of things is a ring in its order."""
    check_weights(weights)
    check_share(share)
    if not is_row(things) or len(things) < 2:
        raise BadRing(things)
    found = _parting(weights, share, len(things))
    if found is None:
        raise NoWay()
    names = list(things)
    rows = {}
    for place, lot in enumerate(found):
        for recorder in lot:
            # Such a row supports all pairs of neighbours but the one of this thing and the next one.
            rows[recorder] = names[place + 1:] + names[:place + 1]
    return Records(weights, share, rows)


def can_be_batch(weights, share, count):
    """Tell whether a batch of just so many things can come about."""
    found = lots(weights, share, count)
    return count == 1 or found is not None


def ring_share(weights, count):
    """Return the greatest share with which a ring of so many things can come about, and None if there is none."""
    check_weights(weights)
    check_count(count, MOST_LOTS)
    parts = proportional(list(weights.values()))
    whole = sum(parts)
    share = Ratio(whole - _least_load(parts, count), whole)
    return share if is_share(share) else None


def _check_lots(weights, share, count):
    """Raise an error if weights, a share or a number of lots are wrong."""
    check_weights(weights)
    check_share(share)
    check_count(count, MOST_LOTS)


def _most_of_a_lot(weights, share):
    """Return what a lot weighs at most: the whole less the share of the whole."""
    whole = total(list(weights.values()))
    return whole - whole * share


def _parting(weights, share, count):
    """Return a parting into any number of lots, and None if there is none."""
    found = _fewest_lots(weights, share)
    if found is None or len(found) > count:
        return None
    return found + [[] for _ in range(count - len(found))]


def _fewest_lots(weights, share):
    """Return a parting into as few lots as possible, each ascending, and None if there is none."""
    names = sorted(weights, key=str)
    most, *parts = proportional([_most_of_a_lot(weights, share), *[weights[name] for name in names]])
    groups = _fewest_groups(parts, most)
    if groups is None:
        return None
    return [[name for place, name in enumerate(names) if (group >> place) & 1] for group in groups]


def _fewest_groups(parts, most):
    """Return as few groups of some parts as possible that hold all of them, and None if a part is too heavy.

    The bits of a group tell its parts, which weigh together at most so much.
    """
    if not all([part <= most for part in parts]):
        return None
    loads = _loads(parts)
    # For each group: into how many lots it can be parted at least, and the one of these with its lowest part.
    counts = [0]
    chosen = [0]
    for group in range(1, len(loads)):
        best = group & -group
        for lot in _groups_with_lowest(group):
            if loads[lot] <= most and counts[group - lot] < counts[group - best]:
                best = lot
        counts.append(counts[group - best] + 1)
        chosen.append(best)
    found = []
    left = len(loads) - 1
    while left:
        found.append(chosen[left])
        left = left - chosen[left]
    return found


def _loads(parts):
    """Return the weights of all groups of some parts, each at the place that its bits tell."""
    loads = [0]
    for part in parts:
        loads = loads + [load + part for load in loads]
    return loads


def _groups_with_lowest(group):
    """Return all groups within a group that hold the lowest part of it."""
    others = group & (group - 1)
    found = [group]
    rest = others
    while rest:
        found.append(group - rest)
        rest = (rest - 1) & others
    return found


def _least_load(parts, count):
    """Return the least weight that so many groups need to hold all parts, none of them heavier than that."""
    steps = sorted(_loads(parts), key=int)
    low = 0
    high = len(steps) - 1
    while low < high:
        middle = (low + high) // 2
        groups = _fewest_groups(parts, steps[middle])
        if groups is not None and len(groups) <= count:
            high = middle
        else:
            low = middle + 1
    return steps[low]
