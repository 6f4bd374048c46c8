"""Whether settings are harmless, for all contents [21, 23]."""

from quietprobes.comparing import compare
from quietprobes.nesting import fitting_base
from quietprobes.reaching import reach


class Verdict:
    """What is decided of a setting against a base."""

    def __init__(self, pairs, contents, rows, parting):
        self.is_harmless = parting is None
        self.pairs = pairs
        self.contents = contents
        self.rows = rows
        self.parting = parting

    def __bool__(self):
        return bool(self.is_harmless)


def judge(program, setting, *, base=None, limit=1000):
    """The Verdict on a setting against a base."""
    lower = fitting_base(program, setting, base)
    reached = reach(program, setting, lower, limit)
    if not reached.partings:
        return Verdict(reached.pairs, None, None, None)
    # No pair is reached after fewer rows than one that was met earlier.
    _, at, choices = reached.partings[0]
    contents = reached.contents_of(at, choices)
    parting = compare(program, contents, setting, base=lower)
    return Verdict(reached.pairs, contents, reached.rows_of(at), parting)


def partings(program, setting, *, base=None, limit=1000):
    """Each row at which the runs can part, with the fewest rows, and contents with which they do."""
    lower = fitting_base(program, setting, base)
    reached = reach(program, setting, lower, limit)
    found = reached.earliest(reached.partings)
    return [(number, *found[number]) for number in sorted(found)]


def failing(program, setting, *, limit=1000):
    """Each assert that can fail, with the fewest rows, and contents with which it does."""
    lower = fitting_base(program, setting, setting)
    reached = reach(program, setting, lower, limit)
    found = reached.earliest(reached.failures)
    return [(name, *found[name]) for name in program.asserts if name in found]
