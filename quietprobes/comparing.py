"""Two runs compared [17], and how they came to part [18]."""

from quietprobes.blocks import OPENING
from quietprobes.nesting import fitting_base
from quietprobes.passing import Supply, acts, event_of, pass_row, probe_deeds
from quietprobes.rows import is_probe
from quietprobes.settings import Setting
from quietprobes.trails import Trails
from quietprobes.worlds import World


class Parting:
    """Where and how two runs part."""

    def __init__(self, rows, row, alike, events, thing, trail):
        self.rows = rows
        self.row = row
        self.alike = alike
        self.events = events
        self.thing = thing
        self.trail = trail


class Lockstep:
    """Two runs with the same contents that have not parted, so that both are at the same place."""

    def __init__(self, program, contents, setting, base):
        self.place = program.first_place()
        self._program = program
        self._setting = setting
        self._base = base
        self._worlds = (World(*program.things), World(*program.things))
        self._supplies = (Supply(contents), Supply(contents))
        self._trails = Trails(program.things)
        self._times = {}
        self._rows = 0
        self._alike = 0

    def pass_next(self):
        """Pass the next row in both runs; return the Parting if they part there, otherwise None."""
        row = self._program.rows[self.place[-1]]
        self._rows += 1
        return self._reach(row) if is_probe(row) else self._pass_own(row)

    def _pass_own(self, row):
        """Pass a row of the program itself."""
        deed = row[1:] if row[0] in OPENING else row
        before = self._uneven() if deed[0] == "look" else []
        base, setting = [pass_row(world, supply, row) for world, supply in zip(self._worlds, self._supplies)]
        events = (event_of(row, base), event_of(row, setting))
        if events[0] != events[1]:
            # Only a look can notice a thing that is not its own.
            noticed = self._trails.first_uneven(deed[1], before) if deed[0] == "look" else deed[1]
            return self._parting(events, noticed)
        if deed[0] == "look":
            self._trails.sink(self.place[-1], deed[1], before, self._uneven())
        if deed[0] in ("copy", "bind") and deed[1] != deed[2] and deed[1] in self._uneven():
            self._trails.carry(self.place[-1], deed[1], deed[2])
        if events[0] is not None:
            self._alike += 1
        self.place = self._program.behind(self.place, setting)
        return None

    def _reach(self, row):
        """Reach a probe."""
        name = row[1]
        times = self._times.get(name, 0)
        self._times[name] = times + 1
        goes_on = True
        if acts(row[2], times):
            answers = self._do_looks(row)
            if row[0] == "assert" and self._base[name] == Setting.ON:
                if answers[0] != answers[1]:
                    return self._parting(tuple([_report(name, answer) for answer in answers]), row[4][1])
                self._alike += 1
            goes_on = row[0] != "assert" or self._setting[name] != Setting.ON or answers[1]
        self.place = self._program.behind(self.place, goes_on)
        return None

    def _do_looks(self, row):
        """Do the looks of a probe in each run, and return what the last ones returned."""
        common = probe_deeds(row, self._base[row[1]])
        base = setting = None
        for at, deed in enumerate(probe_deeds(row, self._setting[row[1]])):
            # An even thing stays even where both runs do the same, but for what a look fills.
            if at < len(common) and deed[0] != "look":
                base, setting = [world.do(deed) for world in self._worlds]
                continue
            before = self._uneven()
            setting = self._worlds[1].do(deed)
            if at < len(common):
                base = self._worlds[0].do(deed)
                self._trails.sink(self.place[-1], deed[1], before, self._uneven())
            else:
                self._trails.begin(self.place[-1], before, self._uneven())
        return base, setting

    def _uneven(self):
        """The names of the things that are uneven."""
        return self._worlds[0] ^ self._worlds[1]

    def _parting(self, events, noticed):
        """How the runs part at the row that comes next, which was passed already."""
        return Parting(self._rows, self.place[-1], self._alike, events, noticed, self._trails.trail_of(noticed))


def _report(name, answer):
    """The event of an assert that is on, by what its test returned."""
    return ("holds" if answer else "fails", name)


def compare(program, contents, setting, *, base=None):
    """The Parting of the runs with a base and with a setting; None if they do not part."""
    lower = fitting_base(program, setting, base)
    runs = Lockstep(program, contents, setting, lower)
    while runs.place:
        parting = runs.pass_next()
        if parting is not None:
            return parting
    return None
