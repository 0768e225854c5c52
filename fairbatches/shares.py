"""How the batches, and what an order may do, depend on the share."""

from fairbatches.ahead import Tally
from fairbatches.batches import batches, check_order, places_in
from fairbatches.checks import check_pair, check_things
from fairbatches.ratios import Ratio


def lead_share(records, one, other):
    """Return the greatest share with which things lead from one thing to another one, each ahead of the next one."""
    check_pair(records, one, other)
    tally = Tally(records)
    return tally.portion(_leads(tally)[one][other])


def merge_share(records, one, other):
    """Return the greatest share with which two things lead to one another."""
    check_pair(records, one, other)
    return batch_share(records, [one, other])


def split_shares(records):
    """Return the list of tuples of a number and of the batches with all shares above it, up to the next number."""
    tally = Tally(records)
    merges = {merge: True for merge in _merges(tally, tally.known)}
    # Two things that are in one batch with just the shares up to some number are a reason for a new tuple there.
    splits = [tally.portion(merge) for merge in sorted(merges, key=int)]
    shares = [share for share in splits if Ratio(1, 2) < share] + [Ratio(1)]
    return [
        (number, batches(records.with_share(share))) for number, share in zip([Ratio(1, 2), *shares], shares)
    ]


def batch_share(records, things):
    """Return the greatest share with which all things of a list lead to one another, and 1 if there are no two."""
    check_things(records, things)
    tally = Tally(records)
    return tally.portion(min(_merges(tally, things), key=int, default=tally.load(tally.everyone)))


def unfairness(records, order):
    """Return the greatest support, divided by the whole, of a pair of which the first thing stands in a later list."""
    check_order(records, order)
    places = places_in(order)
    tally = Tally(records)
    pairs = [(one, other) for one in places for other in places if places[one] > places[other]]
    return tally.portion(max([tally.load(tally.backers(one, other)) for one, other in pairs], key=int, default=0))


def _leads(tally):
    """Return the greatest weight with which things lead from each thing to each other one, as dicts in a dict."""
    things = tally.known
    leads = {one: {other: tally.load(tally.backers(one, other)) for other in things} for one in things}
    for middle in things:
        for start in things:
            for end in things:
                through = min(leads[start][middle], leads[middle][end], key=int)
                leads[start][end] = max(leads[start][end], through, key=int)
    return leads


def _merges(tally, things):
    """Return for any two different things of a list the greatest weight with which they lead to one another."""
    leads = _leads(tally)
    return [min(leads[one][other], leads[other][one], key=int) for one in things for other in things if one != other]
