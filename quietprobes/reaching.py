"""All pairs that two runs can reach, and the moves at which they part or stop [21]."""

from quietprobes.errors import TooMany
from quietprobes.joint import first_pair
from quietprobes.twins import contents_of_way, outcomes


class Reached:
    """The pairs that are reached; each with the fewest rows, as all pairs after fewer rows are met earlier."""

    def __init__(self, program, setting, base):
        self.pairs = [first_pair(program)]
        # The moves that part, and those behind which an assert has failed: the tuple of
        # what is told of it, the place of the pair in the list, and the choices.
        self.partings = []
        self.failures = []
        self._program = program
        self._setting = setting
        self._base = base
        # For each pair the number of rows, and from where and by which choices it was reached.
        self._rows = [0]
        self._ways = [(0, ())]
        self._met = {self.pairs[0]: True}

    def spread(self, at):
        """Pass the next row from the pair at a place of the list."""
        pair = self.pairs[at]
        for choices, twins in outcomes(self._program, pair, self._setting, self._base):
            if twins.has_parted:
                self.partings.append((pair[0][-1], at, choices))
                continue
            if twins.failed is not None:
                self.failures.append((twins.failed, at, choices))
            self._meet((twins.place, twins.told_state()), at, choices)

    def rows_of(self, at):
        """The number of rows that are passed by a move of the pair at a place of the list, its own included."""
        return self._rows[at] + 1

    def contents_of(self, at, choices):
        """Contents with which the runs reach the pair at a place of the list, and make a move of it."""
        ways = [choices]
        while at > 0:
            at, made = self._ways[at]
            ways.append(made)
        ways.reverse()
        return contents_of_way(self._program, self._setting, self._base, self.pairs[0], ways)

    def earliest(self, told):
        """For what is told of partings or failures the fewest rows, and contents with which it comes about."""
        found = {}
        for name, at, choices in told:
            if name not in found:
                found[name] = (self.rows_of(at), self.contents_of(at, choices))
        return found

    def _meet(self, pair, at, choices):
        """Put a pair behind the others, if it is new."""
        if pair not in self._met:
            self._met[pair] = True
            self.pairs.append(pair)
            self._rows.append(self._rows[at] + 1)
            self._ways.append((at, choices))


def reach(program, setting, base, limit):
    """All pairs that are reached [TooMany]."""
    reached = Reached(program, setting, base)
    at = 0
    while at < len(reached.pairs):
        reached.spread(at)
        if len(reached.pairs) > limit:
            raise TooMany(limit)
        at += 1
    return reached
