"""Who is ahead of whom, chains and rings."""

from fairbatches.checks import check_things, is_list
from fairbatches.ratios import proportional


def support(records, one, other):
    """Return the weight of all recorders who have seen one thing, and another one behind it or not yet."""
    check_things(records, [one, other])
    return records.weight_of(_supporters(_rows(records), one, other))


def is_ahead(records, one, other):
    """Tell whether the support of a pair is at least the share of the whole."""
    return needed(records) <= support(records, one, other)


def ahead_pairs(records):
    """Return the ascending list of all pairs of which the first thing is ahead of the second one."""
    return [(one, other) for one, others in followers(records).items() for other in others]


def chain(records, one, other):
    """Return a shortest chain from one thing to another one, and None if there is none."""
    check_things(records, [one, other])
    earlier = reached(followers(records), one)
    if other not in earlier:
        return None
    found = [other, earlier[other]]
    while found[-1] != one:
        found.append(earlier[found[-1]])
    return found[::-1]


def ring(records, thing):
    """Return a shortest ring that begins with a thing, and None if there is none."""
    found = chain(records, thing, thing)
    return None if found is None else found[:-1]


def is_chain(records, value):
    """Tell whether any value is a chain."""
    if not is_list(value) or len(value) < 2:
        return False
    table = followers(records)
    # Strings are looked for first: other values may not be looked up in a dict.
    if not all([isinstance(thing, str) and thing in table for thing in value]):
        return False
    return all([other in table[one] for one, other in zip(value, value[1:])])


def is_ring(records, value):
    """Tell whether any value is a ring."""
    if not is_chain(records, value):
        return False
    return len(set(value)) == len(value) and is_ahead(records, value[-1], value[0])


def needed(records):
    """Return the least support with which a thing is ahead: the share of the whole."""
    return records.whole() * records.share()


def followers(records):
    """Return a dict from each thing, ascending, to the ascending list of the things that it is ahead of."""
    things = records.things()
    rows = _rows(records)
    # Integers in place of Ratios, because there are many sums here.
    need, *parts = proportional([needed(records), *[records.weight(recorder) for recorder in rows]])
    weights = dict(zip(rows, parts))
    table = {}
    for one in things:
        supports = {other: sum([weights[name] for name in _supporters(rows, one, other)]) for other in things}
        table[one] = [other for other in things if need <= supports[other]]
    return table


def reached(table, start):
    """Return a dict from each thing that a chain leads to from a thing, to the thing before it in a shortest one.

    The table tells which things each thing is ahead of.
    """
    earlier = {}
    latest = [start]
    while latest:
        found = []
        for one in latest:
            for other in table[one]:
                if other not in earlier:
                    earlier[other] = one
                    found.append(other)
        latest = found
    return earlier


def _rows(records):
    """Return a dict from each recorder to its row."""
    return {recorder: records.row(recorder) for recorder in records.recorders()}


def _supporters(rows, one, other):
    """Return the recorders who have seen one thing, and another one behind it or not yet."""
    return [name for name, row in rows.items() if one in row and other not in row[:row.index(one) + 1]]
