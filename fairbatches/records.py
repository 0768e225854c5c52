"""Recorders with their weights and rows, and the share."""

from fairbatches.checks import check_row, check_share, check_weights, is_name, is_row, is_share, is_weight
from fairbatches.errors import BadLine, BadName, BadText, InUse, LastOne, NoRecorder
from fairbatches.ratios import Ratio, as_ratio, total


class Records:
    """What some recorders have seen; it never changes."""

    def __init__(self, weights, share, rows):
        check_weights(weights)
        check_share(share)
        for recorder in rows:
            if recorder not in weights:
                raise NoRecorder(recorder)
        for row in rows.values():
            check_row(row)
        self._weights = {recorder: as_ratio(weights[recorder]) for recorder in weights}
        self._share = as_ratio(share)
        self._rows = {recorder: list(rows.get(recorder, [])) for recorder in weights}

    @classmethod
    def read(cls, text):
        """Return the records with a text."""
        lines = text.split("\n")
        share = _read_share(lines[0])
        if share is None:
            raise BadLine(1)
        weights = {}
        rows = {}
        last = ""
        for number, line in enumerate(lines[1:], start=2):
            told = _read_recorder(line)
            # Ascending order also rules out that a recorder comes twice.
            if told is None or told[0] <= last:
                raise BadLine(number)
            last, weight, row = told
            weights[last] = weight
            rows[last] = row
        if not weights:
            raise BadLine(len(lines) + 1)
        return cls(weights, share, rows)

    def text(self):
        """Return the text: a line for the share, and one for each recorder."""
        lines = [f"share {self._share.text()}"]
        for recorder in self.recorders():
            words = [recorder, self._weights[recorder].text(), *self._rows[recorder]]
            lines.append(" ".join(words))
        return "\n".join(lines)

    def recorders(self):
        """Return the ascending list of the recorders."""
        return sorted(self._weights, key=str)

    def things(self):
        """Return the ascending list of the things in all rows."""
        found = {thing: True for row in self._rows.values() for thing in row}
        return sorted(found, key=str)

    def row(self, recorder):
        """Return the row of a recorder."""
        self._check_recorder(recorder)
        return list(self._rows[recorder])

    def weight(self, recorder):
        """Return the weight of a recorder."""
        self._check_recorder(recorder)
        return self._weights[recorder]

    def whole(self):
        """Return the weight of all recorders."""
        return total(list(self._weights.values()))

    def share(self):
        """Return the share."""
        return self._share

    def weight_of(self, recorders):
        """Return the weight of the recorders of a list, each of whom counts once."""
        counted = {}
        for recorder in recorders:
            weight = self.weight(recorder)
            counted[recorder] = weight
        return total(list(counted.values()))

    def __eq__(self, other):
        if not isinstance(other, Records):
            return False
        return self._weights == other._weights and self._share == other._share and self._rows == other._rows

    def seen(self, recorder, thing):
        """Return the records in which a recorder has seen one more thing."""
        row = self.row(recorder)
        if not is_name(thing):
            raise BadName(thing)
        if thing in row:
            raise InUse(thing)
        return self.with_row(recorder, [*row, thing])

    def with_row(self, recorder, row):
        """Return the records with another row of a recorder."""
        self._check_recorder(recorder)
        return Records(self._weights, self._share, {**self._rows, recorder: row})

    def with_share(self, share):
        """Return the records with another share."""
        return Records(self._weights, share, self._rows)

    def without(self, recorder):
        """Return the records without a recorder."""
        self._check_recorder(recorder)
        others = [name for name in self._weights if name != recorder]
        if not others:
            raise LastOne()
        weights = {name: self._weights[name] for name in others}
        rows = {name: self._rows[name] for name in others}
        return Records(weights, self._share, rows)

    def _check_recorder(self, recorder):
        # Any value may come here, also one that cannot be looked up in a dict.
        if not isinstance(recorder, str) or recorder not in self._weights:
            raise NoRecorder(recorder)


def is_alike(records, other):
    """Tell whether records have the same recorders, weights and share as other ones; the rows may differ."""
    names = records.recorders()
    if names != other.recorders() or records.share() != other.share():
        return False
    return all([records.weight(name) == other.weight(name) for name in names])


def _read_share(line):
    """Return the share that a line tells, and None if it tells none."""
    words = line.split(" ")
    if len(words) != 2 or words[0] != "share":
        return None
    share = _read_ratio(words[1])
    return share if is_share(share) else None


def _read_recorder(line):
    """Return the recorder, the weight and the row that a line tells, and None if it tells none."""
    words = line.split(" ")
    if len(words) < 2 or not is_name(words[0]) or not is_row(words[2:]):
        return None
    weight = _read_ratio(words[1])
    return (words[0], weight, words[2:]) if is_weight(weight) else None


def _read_ratio(text):
    """Return the Ratio with a text, and None if it is not the text of one."""
    try:
        return Ratio.read(text)
    except BadText:
        return None
