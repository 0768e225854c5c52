"""Who is ahead of whom, chains and rings."""

from fairbatches.checks import check_things, is_list
from fairbatches.ratios import Ratio, proportional


class Tally:
    """What the rows of some records support, counted in integers; a group is a set of recorders as bits."""

    def __init__(self, records):
        self.names = records.recorders()
        self.known = records.things()
        # Integers in place of Ratios, because there are many sums here.
        need = records.whole() * records.share()
        self.need, self.parts = _scaled(need, [records.weight(name) for name in self.names])
        self.everyone = (1 << len(self.names)) - 1
        self.places = [{thing: place for place, thing in enumerate(records.row(name))} for name in self.names]
        # What has been counted once is kept.
        self.loads = {}
        self.pairs = {}

    def group(self, recorders):
        """Return the group of the recorders of a list."""
        return sum([1 << bit for bit, name in enumerate(self.names) if name in recorders])

    def members(self, group):
        """Return the ascending list of the recorders of a group."""
        return [name for bit, name in enumerate(self.names) if (group >> bit) & 1]

    def groups(self):
        """Return all groups, lighter ones first."""
        size = self.everyone + 1
        # The weight counts most in these numbers, so sorting them sorts the groups by weight.
        codes = sorted([self.load(group) * size + group for group in range(size)], key=int)
        return [code & self.everyone for code in codes]

    def load(self, group):
        """Return the weight of a group."""
        if group not in self.loads:
            self.loads[group] = sum([part for bit, part in enumerate(self.parts) if (group >> bit) & 1])
        return self.loads[group]

    def portion(self, load):
        """Return the quotient of a weight by the whole."""
        return Ratio(load, self.load(self.everyone))

    def backers(self, one, other):
        """Return the group of those who have seen one thing, and another one behind it or not yet.

        The other one may also be a stranger, whom nobody has seen.
        """
        pair = (one, other)
        if pair not in self.pairs:
            ranks = [(row.get(one, len(row)), row.get(other, len(row))) for row in self.places]
            self.pairs[pair] = sum([1 << bit for bit, (first, second) in enumerate(ranks) if first < second])
        return self.pairs[pair]

    def spare(self, one, other, added=0, removed=0):
        """Return what a pair has more than it needs, if a group supports it in any case and another one does not."""
        return self.load((self.backers(one, other) | added) & ~removed) - self.need

    def table(self, added=0, removed=0):
        """Return a dict from each thing to the list of those it is ahead of, all ascending; the groups are as above."""
        return {
            one: [other for other in self.known if other != one and self.spare(one, other, added, removed) >= 0]
            for one in self.known
        }


def support(records, one, other):
    """Return the weight of all recorders who have seen one thing, and another one behind it or not yet."""
    check_things(records, [one, other])
    tally = Tally(records)
    return records.weight_of(tally.members(tally.backers(one, other)))


def is_ahead(records, one, other):
    """Tell whether the support of a pair is at least the share of the whole."""
    check_things(records, [one, other])
    return Tally(records).spare(one, other) >= 0


def ahead_pairs(records):
    """Return the ascending list of all pairs of which the first thing is ahead of the second one."""
    return [(one, other) for one, others in Tally(records).table().items() for other in others]


def chain(records, one, other):
    """Return a shortest chain from one thing to another one, and None if there is none."""
    check_things(records, [one, other])
    return shortest(Tally(records).table(), one, other)


def ring(records, thing):
    """Return a shortest ring that begins with a thing, and None if there is none."""
    found = chain(records, thing, thing)
    return None if found is None else found[:-1]


def is_chain(records, value):
    """Tell whether any value is a chain."""
    return is_list(value) and len(value) > 1 and is_walk(Tally(records).table(), value)


def is_ring(records, value):
    """Tell whether any value is a ring."""
    if not is_chain(records, value):
        return False
    return len(set(value)) == len(value) and is_ahead(records, value[-1], value[0])


def is_walk(table, values):
    """Tell whether a table has all values of a list, and leads from each of them to the next one."""
    # Strings are looked for first: other values may not be looked up in a dict.
    if not all([isinstance(value, str) and value in table for value in values]):
        return False
    return all([other in table[one] for one, other in zip(values, values[1:])])


def shortest(table, one, other):
    """Return a list from one thing to another one, as short as possible, in which each thing leads to the next one.

    It is None if there is none. The table tells to which things each thing leads.
    """
    earlier = reached(table, one)
    if other not in earlier:
        return None
    found = [other, earlier[other]]
    while found[-1] != one:
        found.append(earlier[found[-1]])
    return found[::-1]


def reached(table, start):
    """Return a dict from each thing to which a thing leads, at once or through others, to the one before it."""
    earlier = {}
    latest = [start]
    while latest:
        found = []
        for one in latest:
            for other in table[one]:
                if other not in earlier:
                    earlier[other] = one
                    found.append(other)
        latest = found
    return earlier


def _scaled(need, weights):
    """Return a weight and a list of weights as integers."""
    first, *others = proportional([need, *weights])
    return first, others
