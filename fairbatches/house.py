"""A house: records that change step by step, and what is given out meanwhile."""

from fairbatches.ahead import ahead_pairs
from fairbatches.batches import places_in
from fairbatches.errors import BadLine, BadName, InUse, LastOne, NoRecorder, NothingToRedo, NothingToUndo
from fairbatches.growing import first_given
from fairbatches.records import Records


class House:
    """Records over time, and the lists that have been given out."""

    def __init__(self, weights, share):
        self._start = Records(weights, share, {})
        # A step is a tuple of its line, and of the records and the given lists after it, all of which stay as they are.
        self._steps = []
        self._undone = []

    def see(self, recorder, thing):
        """Let a recorder see one more thing."""
        records = self.records().seen(recorder, thing)
        self._add(f"see {recorder} {thing}", records, self.order())

    def give(self):
        """Give out all that can be given out and has not been, and return the lists of it."""
        given = places_in(self.order())
        parts = [[thing for thing in part if thing not in given] for part in first_given(self.records())]
        found = [part for part in parts if part]
        self._add("give", self.records(), self.order() + found)
        return [list(part) for part in found]

    def strike(self, recorder):
        """Take a recorder out of the records."""
        records = self.records().without(recorder)
        self._add(f"strike {recorder}", records, self.order())

    def records(self):
        """Return the records now."""
        return self._steps[-1][1] if self._steps else self._start

    def __len__(self):
        return len(self._steps)

    def order(self):
        """Return the list of the lists that have been given out so far."""
        return [list(part) for part in self._steps[-1][2]] if self._steps else []

    def waiting(self):
        """Return the ascending list of the things that have not been given out."""
        given = places_in(self.order())
        return [thing for thing in self.records().things() if thing not in given]

    def wrong(self):
        """Return the first pair of which the first thing is ahead but given out later, or not yet; None if none is."""
        order = self.order()
        places = places_in(order)
        # What has not been given out comes behind all that has.
        late = len(order)
        for one, other in ahead_pairs(self.records()):
            if places.get(one, late) > places.get(other, late):
                return (one, other)
        return None

    def undo(self):
        """Take the last step back."""
        if not self._steps:
            raise NothingToUndo()
        self._undone.append(self._steps.pop())

    def redo(self):
        """Do the last step again that was taken back."""
        if not self._undone:
            raise NothingToRedo()
        self._steps.append(self._undone.pop())

    def tried(self, act):
        """Return what a function returns for the house, which is afterwards as it was before."""
        steps = list(self._steps)
        undone = list(self._undone)
        try:
            return act(self)
        finally:
            self._steps = steps
            self._undone = undone

    def text(self):
        """Return the text: a line for each step."""
        return "\n".join([step[0] for step in self._steps])

    def take(self, text):
        """Do the steps of a text, all or none."""
        steps = list(self._steps)
        undone = list(self._undone)
        lines = text.split("\n") if text else []
        for number, line in enumerate(lines, start=1):
            if not self._did(line):
                self._steps = steps
                self._undone = undone
                raise BadLine(number)

    def _did(self, line):
        """Do the step of a line, and tell whether it is a step that can be done."""
        words = line.split(" ")
        try:
            if words[0] == "see" and len(words) == 3:
                self.see(words[1], words[2])
            elif words == ["give"]:
                self.give()
            elif words[0] == "strike" and len(words) == 2:
                self.strike(words[1])
            else:
                return False
        except (NoRecorder, BadName, InUse, LastOne):
            return False
        return True

    def _add(self, line, records, order):
        """Add a step that has been done; what was taken back before cannot be done again then."""
        self._steps.append((line, records, order))
        self._undone = []
