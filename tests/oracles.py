"""What the document says, worked out from its words alone, by trying everything, with Python's own Fractions."""

import functools
import itertools
import random
from fractions import Fraction

from fairbatches.ratios import Ratio
from fairbatches.records import Records

RECORDERS = ["ann", "bob", "cy", "dee", "eve", "flo", "gus", "hal"]


def as_fraction(number):
    """The Fraction that is equal to an integer or a Ratio."""
    return Fraction(number) if isinstance(number, int) else Fraction(number.top, number.bottom)


def some_row(chance, things):
    """A row of some of the things, in any order."""
    return chance.sample(things, chance.randint(0, len(things)))


def many_records(seed, many, most_recorders, things):
    """Many different records, the same ones for the same seed, with many rings and ties among them."""
    chance = random.Random(seed)
    found = []
    for _ in range(many):
        names = RECORDERS[:chance.randint(1, most_recorders)]
        weights = {name: chance.choice([1, 1, 1, 2, Ratio(1, 2), Ratio(4, 3)]) for name in names}
        share = chance.choice([Ratio(51, 100), Ratio(3, 5), Ratio(2, 3), Ratio(2, 3), Ratio(3, 4), 1])
        start = chance.sample(things, len(things))
        rows = {}
        for name in names:
            # Turned rows make rings, any rows make the rest.
            turn = chance.randrange(len(things) + 1)
            rows[name] = chance.choice([start[turn:] + start[:turn], start[turn:], some_row(chance, things)])
        found.append(Records(weights, share, rows))
    return found


def support(records, one, other):
    """The support of a pair [3], as a Fraction."""
    found = Fraction(0)
    for name in records.recorders():
        row = records.row(name)
        if one in row and (other not in row or row.index(one) < row.index(other)):
            found += as_fraction(records.weight(name))
    return found


def pairs(records):
    """The set of all pairs of which the first thing is ahead of the second one [3]."""
    need = as_fraction(records.share()) * sum(as_fraction(records.weight(name)) for name in records.recorders())
    things = records.things()
    return {(one, other) for one in things for other in things if one != other and support(records, one, other) >= need}


def shortest(records, one, other):
    """The number of things of a shortest chain from one thing to another one, and None if there is none."""
    ahead = pairs(records)
    ends = {one}
    for length in range(2, len(records.things()) + 2):
        ends = {second for first, second in ahead if first in ends}
        if other in ends:
            return length
    return None


def batches(records):
    """All batches [4], each ascending, in ascending order."""
    things = records.things()
    leads = pairs(records)
    for _ in things:
        leads = leads | {(one, last) for one, other in leads for first, last in leads if other == first}
    found = {
        tuple(other for other in things if one == other or {(one, other), (other, one)} <= leads) for one in things
    }
    return [list(batch) for batch in sorted(found)]


def orders(things):
    """All orders of some things, each list ascending."""
    if not things:
        return [[]]
    found = []
    for size in range(1, len(things) + 1):
        for first in itertools.combinations(things, size):
            rest = [thing for thing in things if thing not in first]
            found.extend([list(first), *order] for order in orders(rest))
    return found


def unfair_pairs(records, order):
    """All pairs of which the first thing is ahead of the second one but stands in a later list, ascending."""
    place = {thing: at for at, part in enumerate(order) for thing in part}
    return sorted((one, other) for one, other in pairs(records) if place[one] > place[other])


def finest_orders(records):
    """All finest fair orders, each list ascending."""
    parts = batches(records)
    return [
        order for order in orders(records.things())
        if sorted(order) == parts and not unfair_pairs(records, order)
    ]


def loads(weights, places, count):
    """The weights of the lots if the recorders are put into so many lots at these places."""
    found = [Fraction(0)] * count
    for weight, place in zip(weights.values(), places):
        found[place] += as_fraction(weight)
    return found


def least_load(weights, count):
    """The least weight that the heaviest of so many lots can have, over all ways to put recorders into lots."""
    every_way = itertools.product(range(count), repeat=len(weights))
    return min(max(loads(weights, places, count)) for places in every_way)


def there_is_a_parting(weights, share, count):
    """Whether there is a parting into so many lots [21]."""
    whole = sum(as_fraction(weight) for weight in weights.values())
    return least_load(weights, count) <= whole - as_fraction(share) * whole


@functools.lru_cache(None)
def supported(row, things):
    """The pairs that a row supports [3]."""
    return [(one, other) for one in row for other in things if other not in row[:row.index(one) + 1]]


def closed(ahead):
    """All pairs between which there is a chain, as a set, if these pairs are ahead."""
    found = set(ahead)
    while True:
        longer = found | {(one, last) for one, other in found for first, last in ahead if other == first}
        if longer == found:
            return found
        found = longer


def all_rows(things):
    """All rows of things, each a tuple."""
    return [row for size in range(len(things) + 1) for row in itertools.permutations(things, size)]


def lies(records, liars, more=()):
    """All choices of a row for each liar, of the things of the records and some more."""
    return itertools.product(all_rows((*records.things(), *more)), repeat=len(liars))


def views(records, liars, choices, more=()):
    """For each choice of rows for the liars: the set of the things that stand in some row then, and that of the pairs
    of them that are ahead."""
    weights = {name: as_fraction(records.weight(name)) for name in records.recorders()}
    need = as_fraction(records.share()) * sum(weights.values())
    things = (*records.things(), *more)
    for chosen in choices:
        told = {**{name: tuple(records.row(name)) for name in weights}, **dict(zip(liars, chosen))}
        supports = {}
        for name, row in told.items():
            for pair in supported(row, things):
                supports[pair] = supports.get(pair, 0) + weights[name]
        present = {thing for row in told.values() for thing in row}
        yield present, {pair for pair, weight in supports.items() if weight >= need and present >= set(pair)}


def powers(records, liars, choices, more=()):
    """For each wish the set of the pairs of things for which the liars can do it with one of these choices [24-27]."""
    found = {wish: set() for wish in ("put", "keep", "lead", "bar", "part")}
    for present, ahead in views(records, liars, choices, more):
        leads = closed(ahead)
        for pair in itertools.permutations([thing for thing in records.things() if thing in present], 2):
            found["put" if pair in ahead else "keep"].add(pair)
            found["lead" if pair in leads else "bar"].add(pair)
            if not {pair, pair[::-1]} <= leads:
                found["part"].add(pair)
    return found


def weight_of(records, recorders):
    """The weight of some recorders, none of them twice."""
    return sum(as_fraction(records.weight(name)) for name in recorders)


def groups(records):
    """All lists of recorders, each ascending."""
    names = records.recorders()
    return [list(group) for size in range(len(names) + 1) for group in itertools.combinations(names, size)]


def grown_rows(records, more):
    """All choices of rows, one for each recorder, that its row can grow to with the things and some more."""
    things = (*records.things(), *more)
    choices = []
    for name in records.recorders():
        row = tuple(records.row(name))
        choices.append([row + tail for tail in all_rows([thing for thing in things if thing not in row])])
    return choices


def threats(records, more):
    """The pairs of things, and some more, of which the first one can be ahead of the second one in the end [33]."""
    choices = itertools.product(*grown_rows(records, more))
    found = set()
    for _, ahead in views(records, records.recorders(), choices, more):
        found |= ahead
    return found


def all_sets(things):
    """All sets of some things, each an ascending tuple, smaller ones first and else in ascending order."""
    return [chosen for size in range(len(things) + 1) for chosen in itertools.combinations(things, size)]
