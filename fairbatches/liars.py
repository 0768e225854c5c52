"""What recorders can bring about who lie, if it is known who they are."""

from fairbatches.ahead import Tally, reached, shortest
from fairbatches.checks import check_pair, check_recorders
from fairbatches.errors import BadWish
from fairbatches.records import is_alike


def is_lie(records, liars, other):
    """Tell whether other records differ from records by the rows of the liars alone."""
    check_recorders(records, liars)
    if not is_alike(records, other):
        return False
    return all([name in liars or records.row(name) == other.row(name) for name in records.recorders()])


def can_put(records, liars, one, other):
    """Tell whether the liars can write rows with which one thing is ahead of another one."""
    return _can("put", records, liars, one, other)


def can_keep(records, liars, one, other):
    """Tell whether the liars can write rows with which one thing is not ahead of another one."""
    return _can("keep", records, liars, one, other)


def can_lead(records, liars, one, other):
    """Tell whether the liars can write rows with which there is a chain from one thing to another one."""
    return _can("lead", records, liars, one, other)


def leading(records, liars, one, other):
    """Return records with rows of the liars with which there is such a chain, and None if there are none."""
    _check_lie(records, liars, one, other)
    tally = Tally(records)
    path = shortest(tally.table(added=tally.group(liars)), one, other)
    return None if path is None else _told(records, liars, path)


def can_bar(records, liars, one, other):
    """Tell whether the liars can write rows with which there is no chain from one thing to another one."""
    return _can("bar", records, liars, one, other)


def can_part(records, liars, one, other):
    """Tell whether the liars can write rows with which two things are in different batches."""
    return _can("part", records, liars, one, other)


def barring(records, liars, one, other):
    """Return records with rows of the liars with which there is no such chain, and None if there are none."""
    _check_lie(records, liars, one, other)
    tally = Tally(records)
    led = reached(tally.table(removed=tally.group(liars)), one)
    if other in led:
        return None
    first = [thing for thing in tally.known if thing != one and thing not in led]
    # No liar supports a pair that leads from the things behind to those in front.
    return _told(records, liars, first + [thing for thing in tally.known if thing not in first])


def parting(records, liars, one, other):
    """Return records with rows of the liars with which the two are in different batches, and None if there are none."""
    found = barring(records, liars, one, other)
    return barring(records, liars, other, one) if found is None else found


def least_lot(records, wish, one, other):
    """Return the recorders, with the least weight, who can do as liars what a wish says."""
    if not isinstance(wish, str) or wish not in WISHES:
        raise BadWish(wish)
    check_pair(records, one, other)
    can = WISHES[wish]
    tally = Tally(records)
    for group in tally.groups():
        if can(tally, group, one, other):
            return tally.members(group)


def _check_lie(records, liars, one, other):
    """Raise an error if the liars or the things are wrong."""
    check_recorders(records, liars)
    check_pair(records, one, other)


def _can(wish, records, liars, one, other):
    """Tell whether the liars can do what a wish says."""
    _check_lie(records, liars, one, other)
    can = WISHES[wish]
    tally = Tally(records)
    return can(tally, tally.group(liars), one, other)


def _told(records, liars, row):
    """Return the records in which all liars have written a row."""
    told = records
    for liar in liars:
        told = told.with_row(liar, row)
    return told


def _can_put(tally, group, one, other):
    """Tell whether one thing can be put ahead of another one."""
    return tally.spare(one, other, added=group) >= 0


def _can_keep(tally, group, one, other):
    """Tell whether one thing can be kept from being ahead of another one."""
    return tally.spare(one, other, removed=group) < 0


def _can_lead(tally, group, one, other):
    """Tell whether a chain from one thing to another one can be made."""
    return other in reached(tally.table(added=group), one)


def _can_bar(tally, group, one, other):
    """Tell whether a chain from one thing to another one can be barred."""
    return other not in reached(tally.table(removed=group), one)


def _can_part(tally, group, one, other):
    """Tell whether two things can be put into different batches."""
    return _can_bar(tally, group, one, other) or _can_bar(tally, group, other, one)


WISHES = {"put": _can_put, "keep": _can_keep, "lead": _can_lead, "bar": _can_bar, "part": _can_part}
