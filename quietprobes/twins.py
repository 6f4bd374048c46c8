"""Two runs that have not parted, told by a joint state, and what a row does to both [19, 20]."""

from quietprobes.blocks import OPENING
from quietprobes.choices import Choices
from quietprobes.contents import Contents
from quietprobes.passing import acts, probe_deeds
from quietprobes.rows import deeds_of, is_probe
from quietprobes.serials import is_serial, values_of, with_numbers
from quietprobes.settings import Setting
from quietprobes.states import State, done

EVEN = "even"
ENDED = "ended"
AHEAD = "ahead"

# What is told of a thing whose two contents are not kept.
TOLD_KINDS = ("feed", "dice")

# Answers in the run with the base and in the run with the setting, which stand for any that are alike or unlike.
ALIKE = (None, None)
UNLIKE = (False, True)


class Twins:
    """A run with a base and a run with a setting, behind a pair that they have reached."""

    def __init__(self, program, pair, setting, base):
        self.place, state = pair
        self.has_parted = False
        # The name of the assert that has stopped them.
        self.failed = None
        self._program = program
        self._setting = setting
        self._base = base
        self._gates = list(state[-1])
        self._halves = (_half(program.things, state, 0), _half(program.things, state, 1))
        self._rolled = {thing.name: entry for thing, entry in zip(program.things, state) if thing.kind == "dice"}
        feeds = {thing.name: entry for thing, entry in zip(program.things, state) if thing.kind == "feed"}
        # The rows of the feeds are numbered; a row that is fetched gets a new number.
        self._row_of = {name: row for name, (row, _) in feeds.items()}
        self._statuses = {row: status for row, status in feeds.values()}
        # What the choices have told so far of the contents: of each row that was fetched how many items it has.
        self._answers = []
        self._lengths = {}
        self._loads = []

    def move(self, choices):
        """Pass the next row in both runs. Behind a parting only has_parted counts."""
        row = self._program.rows[self.place[-1]]
        if is_probe(row):
            goes_on = self._move_probe(row, choices)
            self.place = self._program.behind(self.place, goes_on)
        else:
            base, setting = self._move_own(row, choices)
            self.has_parted = base != setting
            self.place = self._program.behind(self.place, setting)

    def told_state(self):
        """The joint state, in the normal form."""
        if not self.place:
            return ()
        numbers = {}
        for row in self._row_of.values():
            numbers.setdefault(row, len(numbers))
        entries = [self._entry(thing, numbers) for thing in self._program.things]
        gates = tuple([name for name in self._program.probes if name in self._gates])
        return with_numbers(self._program.things, (*entries, gates))

    def told_contents(self):
        """Contents with which the runs go this way; the pair that they began with must be the first one."""
        return Contents(self._answers, list(self._lengths.values()), self._loads)

    def _entry(self, thing, numbers):
        """The entry of a thing, with new numbers for the rows of feeds."""
        if thing.kind == "feed":
            row = self._row_of[thing.name]
            return numbers[row], self._statuses[row]
        if thing.kind == "dice":
            return self._rolled[thing.name]
        base, setting = [half.contents[thing.name] for half in self._halves]
        return base if thing.kind == "source" else (base, setting)

    def _move_own(self, row, choices):
        """Pass a row of the program itself, and return both answers."""
        deed = row[1:] if row[0] in OPENING else row
        if deed[0] == "ask":
            answer = choices.next_choice()
            self._answers.append(answer)
            return answer, answer
        if deed[0] == "take" and self._statuses[self._row_of[deed[1]]] == AHEAD:
            return UNLIKE
        return self._do_in_both(deed, choices) if deeds_of(deed) else ALIKE

    def _move_probe(self, row, choices):
        """Reach a probe, and return whether the runs go on."""
        _, name, gate, _, _ = row
        if self._setting[name] == Setting.OUT:
            return True
        times = 1 if name in self._gates else 0
        self._count(name, gate)
        if not acts(gate, times):
            return True
        base, setting = self._move_looks(row, choices)
        if row[0] != "assert" or self._setting[name] != Setting.ON:
            return True
        if self._base[name] == Setting.ON:
            self.has_parted = base != setting
        if not setting:
            self.failed = name
        return setting

    def _count(self, name, gate):
        """Count that a probe was reached, as far as its gate asks for it."""
        if name not in self._gates and gate != "always":
            self._gates.append(name)
        elif gate == "second":
            self._gates.remove(name)

    def _move_looks(self, row, choices):
        """Do the looks of a probe, and return both answers of the last one."""
        name = row[1]
        common = len(probe_deeds(row, self._base[name]))
        answers = ALIKE
        for at, deed in enumerate(probe_deeds(row, self._setting[name])):
            answers = self._do_in_both(deed, choices) if at < common else (None, self._do_in_one(deed, choices))
        return answers

    def _do_in_both(self, deed, choices):
        """Do a deed in both runs, and return both answers."""
        word, name = deed[0], deed[1]
        if word in ("take", "skip", "drain", "fetch", "bind"):
            return self._do_with_feed(deed, choices)
        if word == "roll":
            return ALIKE if self._rolled[name] == EVEN else UNLIKE
        if word == "seed":
            self._rolled[name] = EVEN
            return ALIKE
        if word == "load":
            deed = (word, name, self._choose_keys(name, choices))
        return tuple([done(half, deed) for half in self._halves])

    def _do_with_feed(self, deed, choices):
        """Do a deed of a feed in both runs, and return both answers."""
        word, name = deed[0], deed[1]
        row = self._row_of[name]
        if word == "fetch":
            row = len(self._row_of) + len(self._lengths)
            self._row_of[name] = row
            self._statuses[row] = EVEN
            self._lengths[row] = 0
        elif word == "bind":
            self._row_of[name] = self._row_of[deed[2]]
        elif word == "drain":
            self._statuses[row] = ENDED
        elif self._statuses[row] != ENDED:
            there = self._choose_item(row, choices)
            return there, there
        return ALIKE

    def _do_in_one(self, deed, choices):
        """Do a deed in the run with the setting alone, and return its answer."""
        word, name = deed[0], deed[1]
        if word in ("take", "drain"):
            row = self._row_of[name]
            if self._statuses[row] == EVEN and self._choose_item(row, choices):
                self._statuses[row] = AHEAD
        elif word == "roll":
            self._rolled[name] = AHEAD
        else:
            return done(self._halves[1], deed)
        return None

    def _choose_item(self, row, choices):
        """Choose whether a row has an item left where the run with the base is, behind what is chosen so far."""
        there = choices.next_choice()
        if not there:
            self._statuses[row] = ENDED
        elif row in self._lengths:
            self._lengths[row] += 1
        return there

    def _choose_keys(self, name, choices):
        """Choose which keys of a table are loaded."""
        table = [thing for thing in self._program.things if thing.name == name][0]
        keys = tuple([key for key in table.parts if choices.next_choice()])
        self._loads.append(keys)
        return keys


def _half(things, state, side):
    """What one of the two runs has in the things whose contents are kept."""
    half = State(things)
    for thing, entry in zip(things, state):
        if thing.kind not in TOLD_KINDS:
            half.contents[thing.name] = entry if thing.kind == "source" else entry[side]
    serials = [value for thing, entry in zip(things, state) for value in values_of(thing.kind, entry)]
    # New serials are greater than all that are there, and are the same in both runs.
    half.serials = max([value for value in serials if is_serial(value)], default=0)
    return half


def outcomes(program, pair, setting, base):
    """For each move of a pair its choices and the Twins behind it, in ascending order of the choices."""
    found = []
    given = [] if pair[0] else None
    while given is not None:
        choices = Choices(given)
        twins = Twins(program, pair, setting, base)
        twins.move(choices)
        found.append((tuple(choices.made), twins))
        given = choices.given_next()
    return found


def contents_of_way(program, setting, base, first, ways):
    """Contents with which the runs go from the first pair over moves with these choices."""
    twins = Twins(program, first, setting, base)
    for made in ways:
        twins.move(Choices(made))
    return twins.told_contents()
