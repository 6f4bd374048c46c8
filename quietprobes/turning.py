"""Probes that are turned [26, 27], and where a probe can stand [28]."""

from quietprobes.errors import BadTurn, NoProbe
from quietprobes.looks import quiet_twin
from quietprobes.nesting import fitting_setting
from quietprobes.programs import Program
from quietprobes.rows import is_probe
from quietprobes.sets import sets_in_order
from quietprobes.verdicts import judge

KINDS = ("quiet", "lazy", "out")


class Turn:
    """A change of probes that keeps their rows, names and gates."""

    def __init__(self, kind):
        if kind not in KINDS:
            raise BadTurn(kind)
        self.kind = kind

    def __call__(self, program, names):
        for name in names:
            if name not in program:
                raise NoProbe(name)
        parts = [(part, [_turned(self.kind, row, names) for row in rows]) for part, rows in program.parts]
        return Program(program.things, *parts)

    def __eq__(self, other):
        return isinstance(other, Turn) and self.kind == other.kind


def _turned(kind, row, names):
    """A row as it is behind the turn of the probes with these names."""
    if not is_probe(row) or row[1] not in names:
        return row
    word, name, gate, args, rest = row
    if kind == "out":
        return "probe", name, gate, (), ()
    if kind == "quiet":
        quiet = _quiet_looks(rest) if word == "probe" else quiet_twin(rest)
        return word, name, gate, _quiet_looks(args), quiet
    return (word, name, gate, (), (*args, *rest)) if word == "probe" else row


def _quiet_looks(looks):
    """The quiet twins of looks."""
    return tuple([quiet_twin(look) for look in looks])


def fewest_turns(program, setting, turn, *, limit=1000):
    """The fewest probes to turn so that the setting is harmless, and all lesser sets with contents against them."""
    acting = fitting_setting(program, setting).names()
    against = []
    for chosen in sets_in_order(acting):
        verdict = judge(turn(program, chosen), setting, limit=limit)
        if verdict.is_harmless:
            return chosen, against
        against.append((chosen, verdict.contents))
    return None, against


def stands(program, name, setting, *, limit=1000):
    """The numbers to which a probe can be moved so that the setting is harmless."""
    part = program.part_of(program.row_of(name))
    fitting_setting(program, setting)
    found = []
    for number in range(len(program)):
        # The numbers of its part count without the probe, and with one more at the end.
        if program.part_of(number) == part and judge(program.moved(name, number), setting, limit=limit).is_harmless:
            found.append(number)
    return found
