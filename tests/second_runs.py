"""Runs, comparing and trails a second time, told from the document alone, word for word and slowly."""

from tests.model import ModelWorld
from tests.samples_of_programs import Walk

TOLD = ("take", "roll", "get", "peek", "size", "keys", "look", "glance", "read", "watch", "tell")


class SecondRun(Walk):
    """A whole run; for each row that it passes it keeps the number, the event, and each deed with what it left."""

    def __init__(self, program, contents, setting):
        super().__init__(program, None)
        self.world = ModelWorld(*program.things)
        self.setting = setting
        self.answers, self.lengths, self.loads = list(contents.answers), list(contents.lengths), list(contents.loads)
        self.times = {}
        self.passed = []
        self.failed = None
        self.go()

    @property
    def events(self):
        return [event for _, event, _ in self.passed if event is not None]

    def snapshot(self):
        return {name: self.world.content(name) for name in self.world.held}

    def do(self, deeds, deed):
        answer = self.world.do(deed)
        deeds.append((deed, self.snapshot()))
        return answer

    def step(self, place):
        row = self.program.rows[place[-1]]
        deeds = []
        if row[0] in ("probe", "assert"):
            event, found = self.reach(deeds, row), self.failed is None
        else:
            event, found = self.own(deeds, row)
        self.steps.append((place, found))
        self.passed.append((place[-1], event, deeds))
        return found

    def own(self, deeds, row):
        test = row[1:] if row[0] in ("if", "while") else row
        if test[0] == "ask":
            found = self.answers.pop(0) if self.answers else False
            return (*test, found), found
        if row[0] in ("say", "stop"):
            return row, True
        if row[0] in ("call", "else", "end"):
            return None, True
        if row[0] == "fetch":
            test = (*row, self.lengths.pop(0) if self.lengths else 0)
        if row[0] == "load":
            test = (*row, self.loads.pop(0) if self.loads else ())
        found = self.do(deeds, test)
        if row[0] in ("if", "while"):
            return (*test, found), found is not None and found is not False
        return ((*row, found) if row[0] in TOLD else None), True

    def reach(self, deeds, row):
        word, name, gate, args, rest = row
        mode = self.setting[name]
        if mode == "out":
            return None
        self.times[name] = time = self.times.get(name, 0) + 1
        if not {"always": True, "first": time == 1, "later": time > 1, "second": time % 2 == 0}[gate]:
            return None
        for look in args:
            self.do(deeds, (*look, name) if look[0] == "mark" else look)
        if word == "probe" and mode == "on":
            for look in rest:
                self.do(deeds, (*look, name) if look[0] == "mark" else look)
        if word == "probe":
            return None
        held = self.do(deeds, rest)
        if mode != "on":
            return None
        if held is True:
            return "holds", name
        self.failed = name
        return "fails", name


def counted_events(program, run, base):
    """The events that are compared, each with its place among the passed rows."""
    found = []
    for at, (number, event, _) in enumerate(run.passed):
        row = program.rows[number]
        if event is not None and not (row[0] == "assert" and base[row[1]] != "on"):
            found.append((at, event))
    return found


def second_compare(program, contents, setting, base):
    """What a Parting tells, as a dict; None if the runs do not part."""
    runs = [SecondRun(program, contents, base), SecondRun(program, contents, setting)]
    sequences = [counted_events(program, run, base) for run in runs]
    for alike, ((at, event), (other, unlike)) in enumerate(zip(*sequences)):
        if event != unlike:
            assert at == other and [row[0] for row in runs[0].passed[:at + 1]] == [r[0] for r in runs[1].passed[:at + 1]]
            number = runs[0].passed[at][0]
            history = history_of(program, runs, at)
            thing = noticed(program, program.rows[number], history[-1])
            return {
                "rows": at + 1, "row": number, "alike": alike, "events": (event, unlike), "thing": thing,
                "trail": trail_of(program, thing, history),
            }
    return None


def history_of(program, runs, many):
    """All deeds of the first rows: (row number, whether of a row, deed, whether common, before, behind)."""
    first = {name: content for name, content in ModelSnapshot(program).items()}
    now = [first, dict(first)]
    history = [(None, True, ("nothing",), True, now, now)]
    for (number, _, deeds), (_, _, others) in zip(runs[0].passed[:many], runs[1].passed[:many]):
        is_row = program.rows[number][0] not in ("probe", "assert")
        for at, (deed, behind) in enumerate(others):
            common = at < len(deeds)
            following = [deeds[at][1] if common else now[0], behind]
            history.append((number, is_row, deed, common, now, following))
            now = following
    return history


def ModelSnapshot(program):
    world = ModelWorld(*program.things)
    return {name: world.content(name) for name in world.held}


def below(program, name):
    """A field and what it is over, one after another, without the source."""
    overs = {thing.name: thing.parts[0] for thing in program.things if thing.kind == "field"}
    chain = []
    while name in overs:
        chain.append(name)
        name = overs[name]
    return chain


def noticed(program, row, last):
    """The thing that a row notices behind the deeds of which this is the last one."""
    now = last[5]
    if row[0] == "assert":
        return row[4][1]
    if row[0] in ("if", "while"):
        return row[2]
    if row[0] == "look":
        return [name for name in below(program, row[1]) if now[0][name] != now[1][name]][0]
    return row[1]


def trail_of(program, thing, history):
    trail = []
    for number, is_row, deed, common, before, behind in reversed(history):
        was, is_now = (worlds[0][thing] != worlds[1][thing] for worlds in (before, behind))
        if not is_now:
            continue
        if not common and not was:
            return [(number, thing), *trail]
        if is_row and deed[0] in ("copy", "bind") and deed[1] == thing and deed[2] != thing:
            trail.insert(0, (number, thing))
            thing = deed[2]
        elif common and deed[0] == "look" and not was:
            trail.insert(0, (number, thing))
            thing = [name for name in below(program, deed[1]) if before[0][name] != before[1][name]][0]
    raise AssertionError("a trail begins with an extra deed")
