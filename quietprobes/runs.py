"""Runs of programs, and their events [16]."""

from quietprobes.errors import Over
from quietprobes.nesting import fitting_setting
from quietprobes.passing import Supply, acts, event_of, pass_row, probe_deeds
from quietprobes.rows import is_probe
from quietprobes.settings import Setting
from quietprobes.worlds import World


class Run:
    """A run of a program with contents and a setting."""

    def __init__(self, program, contents, setting=None):
        self._setting = fitting_setting(program, setting).duplicate()
        self.program = program
        self.place = program.first_place()
        self.rows = 0
        self.failed = None
        self._world = World(*program.things)
        self._supply = Supply(contents)
        # How often each probe was reached.
        self._times = {}
        self._events = []

    @property
    def is_over(self):
        """Whether no row comes next."""
        return self.place == ()

    def events_so_far(self):
        """The events of the rows that were passed."""
        return list(self._events)

    def world_so_far(self):
        """A world equal to that of the run, of its own."""
        return self._world.duplicate()

    def step(self):
        """Pass one row, and return its event, None if it has none."""
        if self.is_over:
            raise Over()
        row = self.program.rows[self.place[-1]]
        if is_probe(row):
            event = self._reach(row)
            answer = self.failed is None
        else:
            answer = pass_row(self._world, self._supply, row)
            event = event_of(row, answer)
        self.rows += 1
        self.place = self.program.behind(self.place, answer)
        if event is not None:
            self._events.append(event)
        return event

    def finish(self):
        """Pass rows until the run is over, and return all events."""
        while not self.is_over:
            self.step()
        return self.events_so_far()

    def _reach(self, row):
        """Do what a probe does, and return its event, None if it has none."""
        name = row[1]
        times = self._times.get(name, 0)
        self._times[name] = times + 1
        if not acts(row[2], times):
            return None
        mode = self._setting[name]
        answer = None
        for deed in probe_deeds(row, mode):
            answer = self._world.do(deed)
        if row[0] != "assert" or mode != Setting.ON:
            return None
        # The test of an assert is its last deed.
        if not answer:
            self.failed = name
        return ("holds" if answer else "fails", name)


def play(program, contents, setting=None):
    """The events of a whole run."""
    return Run(program, contents, setting).finish()


def play_events(program, contents, setting=None):
    """The events of a whole run, one after another."""
    run = Run(program, contents, setting)
    while not run.is_over:
        event = run.step()
        if event is not None:
            yield event


def event_text(event):
    """The text of an event [29]."""
    return " ".join([_part_text(part) for part in event])


def _part_text(part):
    """The text of a part of an event."""
    if part is None:
        return "-"
    if isinstance(part, bool):
        return "yes" if part else "no"
    if not isinstance(part, tuple):
        return str(part)
    if not part:
        return "."
    # The only tuples are keys, and items and chance numbers, which are two numbers.
    if isinstance(part[0], int):
        return f"{part[0]}.{part[1]}"
    return "+".join(part)
