"""Joint states and moves a second time: each deed turns a joint state into a list of (choices, joint state)."""

import copy

from tests.model import ModelWorld


class Joint:
    """Feeds as shared lists [status], dice as statuses, everything else as two model worlds."""

    def __init__(self, program, state):
        self.program = program
        rows = {}
        self.feeds, self.dice, self.gates = {}, {}, set(state[-1])
        self.worlds = [ModelWorld(*program.things), ModelWorld(*program.things)]
        serials = [0]
        for thing, entry in zip(program.things, state):
            if thing.kind == "feed":
                self.feeds[thing.name] = rows.setdefault(entry[0], [entry[1]])
                assert rows[entry[0]] == [entry[1]]
            elif thing.kind == "dice":
                self.dice[thing.name] = entry
            else:
                for world, content in zip(self.worlds, (entry, entry) if thing.kind == "source" else entry):
                    if thing.kind == "table":
                        serials.extend(value for _, value in content)
                        content = [list(pair) for pair in content]
                    elif thing.kind != "flag" and isinstance(content, int):
                        serials.append(content)
                    world.held[thing.name] = content
        for world in self.worlds:
            world.serials = max(serials)

    def told(self):
        rows, numbers, entries = [], {0: 0}, []

        def number(value):
            if value is None or isinstance(value, str):
                return value
            if value not in numbers:
                numbers[value] = len(numbers)
            return numbers[value]

        for thing in self.program.things:
            sides = [world.held[thing.name] for world in self.worlds]
            if thing.kind == "feed":
                row = self.feeds[thing.name]
                if not any(row is other for other in rows):
                    rows.append(row)
                entries.append(([at for at, other in enumerate(rows) if other is row][0], row[0]))
            elif thing.kind == "dice":
                entries.append(self.dice[thing.name])
            elif thing.kind == "source":
                assert sides[0] == sides[1]
                entries.append(number(sides[0]))
            elif thing.kind == "table":
                entries.append(tuple(tuple((key, number(value)) for key, value in side) for side in sides))
            elif thing.kind == "flag":
                entries.append(tuple(sides))
            else:
                entries.append(tuple(number(side) for side in sides))
        order = [row[1] for row in self.program.rows if row[0] in ("probe", "assert")]
        return (*entries, tuple(name for name in order if name in self.gates))

    def twin(self):
        return copy.deepcopy(self)


def with_choice(joint, false, true):
    """The two ways of a choice; false and true change a joint state."""
    ways = []
    for choice, change in ((False, false), (True, true)):
        way = joint.twin()
        change(way)
        ways.append(((choice,), way))
    return ways


def setter(feed, status):
    def change(joint):
        joint.feeds[feed][0] = status
    return change


def common(joint, deed):
    """A deed of both runs: a list of (choices, joint, answers); answers None of a look whose answers are not told."""
    word, name = deed[0], deed[1]
    if name in joint.feeds and word != "spy":
        if word in ("take", "skip"):
            status = joint.feeds[name][0]
            if status == "ended":
                return [((), joint, (None, None))]
            ways = with_choice(joint, setter(name, "ended"), setter(name, status))
            return [(choices, way, ((1, 0), (1, 0)) if choices[0] else (None, None)) for choices, way in ways]
        if word == "drain":
            joint.feeds[name][0] = "ended"
        if word == "fetch":
            joint.feeds[name] = ["even"]
        if word == "bind":
            joint.feeds[name] = joint.feeds[deed[2]]
        return [((), joint, (None, None))]
    if name in joint.dice and word != "spy":
        answers = (None, None)
        if word == "seed":
            joint.dice[name] = "even"
        elif joint.dice[name] == "ahead":
            answers = ((0, 0), (0, 1))
        return [((), joint, answers)]
    if word == "load":
        keys = [thing.parts for thing in joint.program.things if thing.name == name][0]
        ways = [((), ())]
        for key in keys:
            ways = [((*choices, more), (*held, key) if more else held) for choices, held in ways for more in (False, True)]
        found = []
        for choices, held in ways:
            way = joint.twin()
            for world in way.worlds:
                world.do(("load", name, held))
            found.append((choices, way, (None, None)))
        return found
    return [((), joint, tuple(world.do(deed) for world in joint.worlds))]


def extra(joint, deed):
    word, name = deed[0], deed[1]
    if name in joint.feeds and word != "spy":
        if joint.feeds[name][0] == "even":
            return [(*way, (None, None)) for way in with_choice(joint, setter(name, "ended"), setter(name, "ahead"))]
        return [((), joint, (None, None))]
    if name in joint.dice and word != "spy":
        joint.dice[name] = "ahead"
        return [((), joint, (None, None))]
    return [((), joint, (None, joint.worlds[1].do(deed)))]


def second_moves(program, pair, setting, base):
    place, state = pair
    if place == ():
        return []
    row = program.rows[place[-1]]
    joint = Joint(program, state)
    if row[0] in ("probe", "assert"):
        ways = reach(program, joint, row, setting[row[1]], base[row[1]])
    else:
        ways = own(joint, row)
    found = []
    for choices, way, goes in ways:
        following = None if goes == "parts" else program.behind(place, goes)
        told = None if goes == "parts" else way.told() if following else ()
        found.append((choices, following, told))
    return sorted(found, key=lambda move: move[0])


def own(joint, row):
    """A list of (choices, joint, "parts" or the answer)."""
    test = row[1:] if row[0] in ("if", "while") else row
    if test[0] == "ask":
        return [((False,), joint.twin(), False), ((True,), joint, True)]
    if row[0] in ("say", "stop", "call", "else", "end"):
        return [((), joint, True)]
    if test[0] == "take" and joint.feeds[test[1]][0] == "ahead":
        return [((), joint, "parts")]
    return [(choices, way, "parts" if answers[0] != answers[1] else answers[0]) for choices, way, answers in common(joint, test)]


def reach(program, joint, row, mode, lower):
    word, name, gate, args, rest = row
    if mode == "out":
        return [((), joint, True)]
    reached = name in joint.gates
    if gate in ("first", "later"):
        joint.gates.add(name)
    if gate == "second":
        joint.gates ^= {name}
    if gate == "first" and reached or gate in ("later", "second") and not reached:
        return [((), joint, True)]
    deeds = [(look, lower != "out") for look in args]
    if word == "probe" and mode == "on":
        deeds += [(look, lower == "on") for look in rest]
    if word == "assert":
        deeds.append((rest, lower != "out"))
    ways = [((), joint, (None, None))]
    for look, is_common in deeds:
        look = (*look, name) if look[0] == "mark" else look
        ways = [
            ((*before, *choices), after, answers) for before, way, _ in ways
            for choices, after, answers in (common if is_common else extra)(way, look)
        ]
    if word == "probe" or mode == "deaf":
        return [(choices, way, True) for choices, way, _ in ways]
    if lower == "on":
        return [(c, way, "parts" if answers[0] != answers[1] else answers[0]) for c, way, answers in ways]
    return [(choices, way, answers[1]) for choices, way, answers in ways]


def second_reach(program, setting, base, first):
    """All pairs that are reached, by the fewest rows, and the rows at which the runs can part, with the fewest rows."""
    depths, parts, queue = {first: 0}, {}, [first]
    for pair in queue:
        for _, place, state in second_moves(program, pair, setting, base):
            if place is None:
                parts.setdefault(pair[0][-1], depths[pair] + 1)
            elif (place, state) not in depths:
                depths[place, state] = depths[pair] + 1
                queue.append((place, state))
    return depths, parts
