"""What is sure, and what may be, if recorders who are not known may have lied."""

from fairbatches.ahead import Tally
from fairbatches.batches import batches_of, check_order, places_in
from fairbatches.checks import check_bound
from fairbatches.liars import barring, least_lot


def surely_ahead(records, weight, one, other):
    """Tell whether one thing is ahead of another one by the true rows, whoever has lied."""
    return not _may(records, weight, "keep", one, other)


def may_be_ahead(records, weight, one, other):
    """Tell whether one thing is ahead of another one for some liars and some true rows."""
    return _may(records, weight, "put", one, other)


def surely_before(records, weight, one, other):
    """Tell whether there is a chain from one thing to another one by the true rows, whoever has lied."""
    return not _may(records, weight, "bar", one, other)


def may_be_before(records, weight, one, other):
    """Tell whether there is a chain from one thing to another one for some liars and some true rows."""
    return _may(records, weight, "lead", one, other)


def doubt(records, weight, one, other):
    """Return liars and true records without a chain from one thing to another one, and None if there are none."""
    if surely_before(records, weight, one, other):
        return None
    liars = least_lot(records, "bar", one, other)
    return (liars, barring(records, liars, one, other))


def firmness(records, one, other):
    """Return the least weight of liars who leave it open whether there is a chain from one thing to another one."""
    return records.weight_of(least_lot(records, "bar", one, other))


def sure_batches(records, weight):
    """Return the list of the sets of things that are surely in one batch, each ascending, in ascending order."""
    check_bound(weight)
    tally = Tally(records)
    sure = {thing: tally.known for thing in tally.known}
    for group in _lots(records, tally, weight):
        for batch in batches_of(tally.table(removed=group)):
            for thing in batch:
                sure[thing] = [other for other in sure[thing] if other in batch]
    # The first thing of a set stands for it, so the sets come in ascending order.
    found = {things[0]: things for things in sure.values()}
    return list(found.values())


def sure_order(records, weight, order):
    """Tell whether an order is fair by the true rows, whoever has lied."""
    check_bound(weight)
    check_order(records, order)
    places = places_in(order)
    tally = Tally(records)
    for group in _lots(records, tally, weight):
        table = tally.table(added=group)
        if any([places[one] > places[other] for one in table for other in table[one]]):
            return False
    return True


def _may(records, weight, wish, one, other):
    """Tell whether some liars, of at most a weight together, can do what a wish says."""
    check_bound(weight)
    return records.weight_of(least_lot(records, wish, one, other)) <= weight


def _lots(records, tally, weight):
    """Return the groups of at most a weight, without those that lie in another one: they can do no more than it."""
    fitting = {group: True for group in tally.groups() if records.weight_of(tally.members(group)) <= weight}
    bits = [1 << place for place in range(len(tally.names))]
    return [group for group in fitting if not any([not (group & bit) and (group + bit) in fitting for bit in bits])]
