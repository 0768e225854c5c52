"""Batches, and the fair orders that are made up of them."""

from fairbatches.ahead import Tally, ahead_pairs, chain, reached
from fairbatches.checks import check_things, is_split
from fairbatches.errors import BadOrder


def batches(records):
    """Return the list of all batches, each ascending, in ascending order."""
    return batches_of(Tally(records).table())


def batches_of(table):
    """Return the list of all batches, where a table tells which things each thing is ahead of."""
    leads = {thing: reached(table, thing) for thing in table}
    found = {}
    for one in table:
        batch = [other for other in table if other == one or (other in leads[one] and one in leads[other])]
        # The first thing of a batch stands for it, so the batches come in ascending order.
        found[batch[0]] = batch
    return list(found.values())


def fair_order(records):
    """Return the finest fair order in which always the first batch comes next that has to wait for no other one."""
    found = batches(records)
    waits = _waits(records, found)
    given = 0
    order = []
    # Batches never wait for one another in a ring, so there is always one that is free.
    for _ in found:
        place = _free(waits, given)[0]
        given = given | (1 << place)
        order.append(found[place])
    return order


def is_order(records, value):
    """Tell whether any value is an order of all things."""
    return is_split(value, records.things()) and all([len(part) > 0 for part in value])


def is_fair(records, order):
    """Tell whether an order is fair."""
    return against(records, order) is None


def is_finest(records, order):
    """Tell whether an order is fair, and its lists are the batches."""
    if not is_fair(records, order):
        return False
    found = batches(records)
    return all([sorted(part, key=str) in found for part in order])


def count_orders(records):
    """Return the number of the finest fair orders."""
    found = batches(records)
    waits = _waits(records, found)
    # For each set of batches, as bits, the number of ways to give out just these first.
    ways = {0: 1}
    for _ in found:
        longer = {}
        for given, many in ways.items():
            for place in _free(waits, given):
                together = given | (1 << place)
                longer[together] = longer.get(together, 0) + many
        ways = longer
    return sum(ways.values())


def against(records, order):
    """Return the first pair of which the first thing is ahead of the second one but stands in a later list."""
    check_order(records, order)
    places = places_in(order)
    for one, other in ahead_pairs(records):
        if places[one] > places[other]:
            return (one, other)
    return None


def merged(records, one, other):
    """Tell whether two things are in the same batch."""
    check_things(records, [one, other])
    return any([one in batch and other in batch for batch in batches(records)])


def before(records, one, other):
    """Tell whether one thing stands in an earlier list than another one in all finest fair orders."""
    return chain(records, one, other) is not None and not merged(records, one, other)


def check_order(records, order):
    """Raise an error if a value is not an order of all things."""
    if not is_order(records, order):
        raise BadOrder(order)


def places_in(parts):
    """Return a dict from each thing to the number of the list in which it stands."""
    return {thing: place for place, part in enumerate(parts) for thing in part}


def _waits(records, found):
    """Return for each of the batches, as bits, the other batches that have a thing ahead of one of its things."""
    places = places_in(found)
    waits = [0 for _ in found]
    for one, other in ahead_pairs(records):
        if places[one] != places[other]:
            waits[places[other]] = waits[places[other]] | (1 << places[one])
    return waits


def _free(waits, given):
    """Return the numbers of the batches that are not given yet, and wait for nothing that is not given."""
    return [place for place, wait in enumerate(waits) if not (given >> place) & 1 and (wait & given) == wait]
