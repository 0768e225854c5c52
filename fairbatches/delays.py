"""When things can have been sent that were seen with some delay."""

from fairbatches.ahead import Tally, shortest
from fairbatches.batches import batches
from fairbatches.checks import check_delay, check_pair, check_times
from fairbatches.ratios import as_ratio, greater


def fits_times(records, delay, times):
    """Tell whether the rows can have come about if things were sent at these times."""
    check_delay(delay)
    check_times(records, times)
    last = {thing: as_ratio(times[thing]) + delay for thing in times}
    return all([as_ratio(times[one]) <= last[other] for one, others in _steps(records).items() for other in others])


def moments(records, delay, times):
    """Return moments at which each recorder can have seen the things of its row, and None if the times do not fit."""
    if not fits_times(records, delay, times):
        return None
    return {recorder: _moments([times[thing] for thing in records.row(recorder)]) for recorder in records.recorders()}


def span(records, delay, one, other):
    """Return by how much one thing can have been sent later than another one, and None if by any number."""
    check_delay(delay)
    check_pair(records, one, other)
    count = _count(_steps(records), one, other)
    return None if count is None else as_ratio(delay) * count


def latest(records, delay, one, other):
    """Return times that fit, with one thing as much later than another one as can be, and None if by any number."""
    if span(records, delay, one, other) is None:
        return None
    steps = _steps(records)
    counts = {thing: _count(steps, thing, other) for thing in steps}
    # What does not lead to the other one can be later than all that does, because it leads to nothing of that.
    return {thing: as_ratio(delay) * (len(counts) if count is None else count) for thing, count in counts.items()}


def batch_spans(records, delay):
    """Return the list of the batches, each with the greatest number by which its things can have been sent apart."""
    check_delay(delay)
    steps = _steps(records)
    found = []
    for batch in batches(records):
        count = max([_count(steps, one, other) for one in batch for other in batch], key=int)
        found.append((batch, as_ratio(delay) * count))
    return found


def _steps(records):
    """Return a dict from each thing to the things that are behind it for some recorder, all ascending."""
    tally = Tally(records)
    return {one: [other for other in tally.known if tally.backers(one, other)] for one in tally.known}


def _count(steps, one, other):
    """Return the least number of steps from one thing to another one, or to itself, and None if there are none."""
    if one == other:
        return 0
    path = shortest(steps, one, other)
    return None if path is None else len(path) - 1


def _moments(sent):
    """Return the least moments that do not descend, none of them before the one at the same place."""
    found = []
    for moment in sent:
        found.append(greater(moment, found[-1]) if found else as_ratio(moment))
    return found
