"""What can be given out while rows grow, so that nothing has to be taken back."""

from fairbatches.ahead import Tally, is_walk, reached, shortest
from fairbatches.checks import check_things, is_list
from fairbatches.errors import NoWay
from fairbatches.records import is_alike

LETTERS = "abcdefghijklmnopqrstuvwxyz"
STRANGER = ""


def threatens(records, one, other):
    """Tell whether rows can grow so that one thing is ahead of another one in the end."""
    check_things(records, [one, other])
    return _threatens(Tally(records), one, other)


def open_to_strangers(records, thing):
    """Tell whether a thing that is in no row yet threatens a thing."""
    check_things(records, [thing])
    return _threatens(Tally(records), STRANGER, thing)


def can_give(records, things):
    """Tell whether the things of a list can be given out."""
    check_things(records, things)
    table = _threats(records)
    threatened = [other for one in table if one not in things for other in table[one]]
    return not any([thing in threatened for thing in things])


def ready(records):
    """Return the greatest set of things that can be given out, ascending."""
    return _ready(records, _threats(records))


def threat(records, thing):
    """Return a list of things, each threatened by the one before it, from one that a stranger threatens to a thing.

    It is None if the thing is ready.
    """
    check_things(records, [thing])
    found = shortest(_threats(records), STRANGER, thing)
    return None if found is None else found[1:]


def is_threat(records, thing, value):
    """Tell whether any value is such a list."""
    check_things(records, [thing])
    if not is_list(value) or not is_walk(_threats(records), [STRANGER, *value]):
        return False
    return len(value) > 0 and value[-1] == thing and len(set(value)) == len(value)


def grown(records, one, other):
    """Return records with rows that have grown, in which one thing, or a stranger, is ahead of another one."""
    check_things(records, [other] if one == STRANGER else [one, other])
    if not _threatens(Tally(records), one, other):
        raise NoWay()
    name = _new_name(records.things()) if one == STRANGER else one
    told = records
    for recorder in records.recorders():
        row = records.row(recorder)
        if name not in row and other not in row:
            told = told.seen(recorder, name)
    return told


def is_grown(records, other):
    """Tell whether other records have the same recorders, weights and share, and rows that begin with the rows here."""
    if not is_alike(records, other):
        return False
    rows = [(records.row(recorder), other.row(recorder)) for recorder in records.recorders()]
    return all([later[:len(row)] == row for row, later in rows])


def first_given(records):
    """Return the order of the things that are ready in which as few things as possible come next each time."""
    table = _threats(records)
    left = _ready(records, table)
    leads = {thing: reached(table, thing) for thing in left}
    order = []
    while left:
        # What leads to a thing, but has not been given yet, must come with it.
        sets = [[one for one in left if one == thing or thing in leads[one]] for thing in left]
        order.append(min(sets, key=len))
        left = [thing for thing in left if thing not in order[-1]]
    return order


def _threatens(tally, one, other):
    """Tell whether one thing, or a stranger, threatens another thing."""
    # Rows only grow, so those who back the other one never will back this one, and all others can.
    others = tally.everyone - tally.backers(other, one)
    return one != other and tally.load(others) >= tally.need


def _threats(records):
    """Return a dict from each thing, and the stranger, to the ascending list of the things that it threatens."""
    tally = Tally(records)
    return {
        one: [other for other in tally.known if _threatens(tally, one, other)] for one in [STRANGER, *tally.known]
    }


def _ready(records, table):
    """Return the things to which no stranger leads."""
    threatened = reached(table, STRANGER)
    return [thing for thing in records.things() if thing not in threatened]


def _new_name(things):
    """Return a name that is none of some things."""
    number = 0
    while _name(number) in things:
        number += 1
    return _name(number)


def _name(number):
    """Return the name with a number."""
    name = ""
    rest = number
    for _ in range(8):
        rest, place = divmod(rest, len(LETTERS))
        name = LETTERS[place] + name
    return name
