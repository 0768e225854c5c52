"""What the document says, worked out from its words alone, by trying everything, with Python's own Fractions."""

import itertools
import random
from fractions import Fraction

from fairbatches.ratios import Ratio
from fairbatches.records import Records

RECORDERS = ["ann", "bob", "cy", "dee", "eve", "flo", "gus", "hal"]


def as_fraction(number):
    """The Fraction that is equal to an integer or a Ratio."""
    return Fraction(number) if isinstance(number, int) else Fraction(number.top, number.bottom)


def some_row(chance, things):
    """A row of some of the things, in any order."""
    return chance.sample(things, chance.randint(0, len(things)))


def many_records(seed, many, most_recorders, things):
    """Many different records, the same ones for the same seed, with many rings and ties among them."""
    chance = random.Random(seed)
    found = []
    for _ in range(many):
        names = RECORDERS[:chance.randint(1, most_recorders)]
        weights = {name: chance.choice([1, 1, 1, 2, Ratio(1, 2), Ratio(4, 3)]) for name in names}
        share = chance.choice([Ratio(51, 100), Ratio(3, 5), Ratio(2, 3), Ratio(2, 3), Ratio(3, 4), 1])
        start = chance.sample(things, len(things))
        rows = {}
        for name in names:
            # Turned rows make rings, any rows make the rest.
            turn = chance.randrange(len(things) + 1)
            rows[name] = chance.choice([start[turn:] + start[:turn], start[turn:], some_row(chance, things)])
        found.append(Records(weights, share, rows))
    return found


def support(records, one, other):
    """The support of a pair [3], as a Fraction."""
    found = Fraction(0)
    for name in records.recorders():
        row = records.row(name)
        if one in row and (other not in row or row.index(one) < row.index(other)):
            found += as_fraction(records.weight(name))
    return found


def pairs(records):
    """The set of all pairs of which the first thing is ahead of the second one [3]."""
    need = as_fraction(records.share()) * sum(as_fraction(records.weight(name)) for name in records.recorders())
    things = records.things()
    return {(one, other) for one in things for other in things if one != other and support(records, one, other) >= need}


def shortest(records, one, other):
    """The number of things of a shortest chain from one thing to another one, and None if there is none."""
    ahead = pairs(records)
    ends = {one}
    for length in range(2, len(records.things()) + 2):
        ends = {second for first, second in ahead if first in ends}
        if other in ends:
            return length
    return None


def batches(records):
    """All batches [4], each ascending, in ascending order."""
    things = records.things()
    leads = pairs(records)
    for _ in things:
        leads = leads | {(one, last) for one, other in leads for first, last in leads if other == first}
    found = {
        tuple(other for other in things if one == other or {(one, other), (other, one)} <= leads) for one in things
    }
    return [list(batch) for batch in sorted(found)]


def orders(things):
    """All orders of some things, each list ascending."""
    if not things:
        return [[]]
    found = []
    for size in range(1, len(things) + 1):
        for first in itertools.combinations(things, size):
            rest = [thing for thing in things if thing not in first]
            found.extend([list(first), *order] for order in orders(rest))
    return found


def unfair_pairs(records, order):
    """All pairs of which the first thing is ahead of the second one but stands in a later list, ascending."""
    place = {thing: at for at, part in enumerate(order) for thing in part}
    return sorted((one, other) for one, other in pairs(records) if place[one] > place[other])


def finest_orders(records):
    """All finest fair orders, each list ascending."""
    parts = batches(records)
    return [
        order for order in orders(records.things())
        if sorted(order) == parts and not unfair_pairs(records, order)
    ]


def loads(weights, places, count):
    """The weights of the lots if the recorders are put into so many lots at these places."""
    found = [Fraction(0)] * count
    for weight, place in zip(weights.values(), places):
        found[place] += as_fraction(weight)
    return found


def least_load(weights, count):
    """The least weight that the heaviest of so many lots can have, over all ways to put recorders into lots."""
    every_way = itertools.product(range(count), repeat=len(weights))
    return min(max(loads(weights, places, count)) for places in every_way)


def there_is_a_parting(weights, share, count):
    """Whether there is a parting into so many lots [21]."""
    whole = sum(as_fraction(weight) for weight in weights.values())
    return least_load(weights, count) <= whole - as_fraction(share) * whole
