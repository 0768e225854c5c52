"""Which rings recorders can bring about who lie, if it is known who they are."""

from itertools import permutations

from fairbatches.ahead import Tally
from fairbatches.checks import check_count, check_pair, check_recorders, check_ring

MOST_THINGS = 5


def can_ring(records, liars, things):
    """Tell whether the liars can write rows with which a list of things is a ring in its order."""
    return ringing(records, liars, things) is not None


def ringing(records, liars, things):
    """Return records with rows of the liars with which a list of things is a ring, and None if there are none."""
    check_recorders(records, liars)
    check_ring(records, things)
    tally = Tally(records)
    group = tally.group(liars)
    names = list(things)
    places = _places(_parts(tally, group), _spares(tally, group, names))
    if places is None:
        return None
    told = records
    for liar, place in zip(tally.members(group), places):
        # Such a row supports all pairs of neighbours but the one of this thing and the next one.
        told = told.with_row(liar, names[place + 1:] + names[:place + 1])
    return told


def joining_ring(records, liars, one, other, most):
    """Return a shortest ring that the liars can bring about, with one thing first and another one in it.

    It is None if there is none of at most so many things.
    """
    check_recorders(records, liars)
    check_pair(records, one, other)
    check_count(most, MOST_THINGS)
    tally = Tally(records)
    group = tally.group(liars)
    for size in range(1, most):
        found = _ring_with(tally, group, one, other, size)
        if found is not None:
            return found
    return None


def least_ringers(records, things):
    """Return the recorders, with the least weight, who can make a list of things a ring, and None if all cannot."""
    check_ring(records, things)
    tally = Tally(records)
    names = list(things)
    # What some recorders can do, all can do.
    if _places(tally.parts, _spares(tally, tally.everyone, names)) is None:
        return None
    for group in tally.groups():
        if _places(_parts(tally, group), _spares(tally, group, names)) is not None:
            return tally.members(group)


def _ring_with(tally, group, one, other, size):
    """Return a ring that a group can bring about, of one thing and so many behind it, and None if there is none."""
    parts = _parts(tally, group)
    others = [thing for thing in tally.known if thing != one]
    vain = {}
    for rest in permutations(others, size):
        if other not in rest:
            continue
        spares = _spares(tally, group, [one, *rest])
        # It does not matter which lot is which, so many lists fail for the same reason.
        code = tuple(sorted(spares, key=int))
        if code not in vain and _places(parts, spares) is not None:
            return [one, *rest]
        vain[code] = True
    return None


def _parts(tally, group):
    """Return the weights of the recorders of a group."""
    return [part for bit, part in enumerate(tally.parts) if (group >> bit) & 1]


def _spares(tally, group, names):
    """Return for each pair of neighbours of a ring what it has more than it needs if all of a group support it."""
    return [tally.spare(one, other, added=group) for one, other in zip(names, names[1:] + names[:1])]


def _places(parts, spares):
    """Return for each part the number of its lot, so that each lot has at most the weight that is spare there.

    It is None if there is no way. If there is one, then the parts can also be put in one after the other, in some
    order, where each goes into the lot that the one before it went into, or into the next one that can hold it.
    """
    if not all([spare >= 0 for spare in spares]) or sum(parts) > sum(spares):
        return None
    unit = sum(parts) + 1
    # For each group of parts: how far it fills the lots at least, and the part that is then put in last.
    levels = [0]
    lasts = [0]
    for group in range(1, 1 << len(parts)):
        bits = [bit for bit in range(len(parts)) if (group >> bit) & 1]
        found = [_level(levels[group - (1 << bit)], parts[bit], spares, unit) for bit in bits]
        levels.append(min(found, key=int))
        lasts.append(bits[found.index(levels[group])])
    if levels[-1] >= unit * len(spares):
        return None
    places = [0 for _ in parts]
    left = len(levels) - 1
    while left:
        places[lasts[left]] = levels[left] // unit
        left = left - (1 << lasts[left])
    return places


def _level(level, part, spares, unit):
    """Return how far the lots are filled with one more part: the number of a lot, times the unit, and its weight."""
    place, load = divmod(level, unit)
    if place < len(spares) and load + part <= spares[place]:
        return level + part
    later = [number for number in range(place + 1, len(spares)) if part <= spares[number]]
    return (later[0] if later else len(spares)) * unit + part
