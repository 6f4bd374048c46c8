"""Random programs with all kinds of rows, and random settings and contents for them."""

from quietprobes.contents import Contents
from quietprobes.programs import Program
from quietprobes.settings import Setting
from quietprobes.things import Thing

THINGS = [
    Thing.feed("f"), Thing.feed("g"), Thing.feed("h"), Thing.dice("d"), Thing.dice("e"), Thing.table("t", "a", "b"),
    Thing.table("u", "a"), Thing.source("s"), Thing.field("v", "s"), Thing.field("w", "v"), Thing.field("x", "w"),
    Thing.flag("l"), Thing.flag("k"), Thing.slot("n"), Thing.slot("m"), Thing.slot("o"),
]
ROWS = {
    "feed": ["take", "take", "skip", "drain", "fetch", "fetch"], "dice": ["roll", "seed"],
    "table": ["size", "keys", "load", "wipe"], "source": ["change"], "field": ["look", "look", "glance", "renew"],
    "flag": ["lift", "lift", "lift", "read", "watch"], "slot": ["keep", "tell"],
}
LOOKS = {
    "feed": ["take", "drain"], "dice": ["roll"], "table": ["size", "keys"], "source": [],
    "field": ["look", "look", "renew", "glance"], "flag": ["read"] * 4 + ["watch"], "slot": ["mark"] * 4 + ["tell", "bound"],
}
KEYED_ROWS = ["get", "peek", "put", "fill", "drop"]
KEYED_LOOKS = ["get", "get", "drop", "drop", "peek", "has"]
GATES = ["always", "always", "first", "later", "second"]
PROBES = ["p", "q", "r", "z", "y"]


def wild_things(chance, most):
    """Some things, with what their fields are over; often several of one kind."""
    names = {thing.name for thing in chance.sample(THINGS, most)}
    kind = chance.choice([*Thing.KINDS, "feed", "table", "field", "slot", None])
    names |= {thing.name for thing in THINGS if thing.kind == kind}
    for thing in reversed(THINGS):
        if thing.name in names and thing.kind == "field":
            names.add(thing.parts[0])
    return [thing for thing in THINGS if thing.name in names][:8]


class Wild:
    """Makes a program of random rows."""

    def __init__(self, chance, most_things=4, most_rows=10, probes=2, asks=2):
        self.chance, self.most_rows, self.asks = chance, most_rows, asks
        self.things = wild_things(chance, chance.randrange(most_things + 1))
        self.probes = PROBES[:probes]
        self.names = ["main", "one", "two"][:chance.randrange(1, 4)]

    def of_kind(self, kind):
        return [thing for thing in self.things if thing.kind == kind]

    def looks(self):
        return tuple([self.look() for _ in range(self.chance.choice([0, 1, 1, 2]))]) if self.things else ()

    def look(self):
        thing = self.chance.choice(self.things)
        if thing.kind == "table" and thing.parts and self.chance.random() < 0.7:
            return self.chance.choice(KEYED_LOOKS), thing.name, self.chance.choice(thing.parts)
        return self.chance.choice([*LOOKS[thing.kind], *LOOKS[thing.kind], "spy"]), thing.name

    def row(self):
        if not self.things:
            return "say", "hi"
        thing = self.chance.choice(self.things)
        if thing.kind == "table" and thing.parts and self.chance.random() < 0.7:
            return self.chance.choice(KEYED_ROWS), thing.name, self.chance.choice(thing.parts)
        if thing.kind in ("feed", "slot") and self.chance.random() < (0.3 if thing.kind == "feed" else 0.6):
            return {"feed": "bind", "slot": "copy"}[thing.kind], thing.name, self.chance.choice(self.of_kind(thing.kind)).name
        return self.chance.choice(ROWS[thing.kind]), thing.name

    def test(self, words):
        """A test with one of these words, ask if the things allow no other one."""
        picks = [("ask", "w")] if "ask" in words else []
        for thing in self.things:
            if thing.kind == "feed" and "take" in words:
                picks.append(("take", thing.name))
            if thing.kind == "table" and "has" in words:
                picks.extend([("has", thing.name, key) for key in thing.parts])
            if thing.kind == "flag":
                picks.extend([(word, thing.name) for word in ("read", "watch") if word in words])
            if thing.kind == "slot" and "bound" in words:
                picks.append(("bound", thing.name))
        return self.chance.choice(picks) if picks else None

    def probe(self, name):
        gate = self.chance.choice(GATES)
        args = self.looks()
        test = self.test(("has", "bound", "read", "watch"))
        if test and self.chance.random() < 0.4:
            return "assert", name, gate, args, test
        return "probe", name, gate, args, self.looks()

    def rows(self, most, later):
        rows = []
        opened = []
        for _ in range(most):
            pick = self.chance.random()
            if pick < 0.15 and len(opened) < 3:
                rows.append(("if", *self.test(("ask", "take", "has", "read", "bound"))))
                opened.append("if")
            elif pick < 0.25 and len(opened) < 3:
                rows.append(("while", *self.test(("ask", "take"))))
                opened.append("while")
            elif pick < 0.32 and opened and opened[-1] == "if":
                rows.append(("else",))
                opened[-1] = "else"
            elif pick < 0.42 and opened:
                rows.append(("end",))
                opened.pop()
            elif pick < 0.47 and later:
                rows.append(("call", self.chance.choice(later)))
            elif pick < 0.48:
                rows.append(self.chance.choice([("stop",), ("say", "hi"), ("say", "hi"), ("say", "hi")]))
            else:
                rows.append(self.row())
        return rows + [("end",)] * len(opened)

    def program(self):
        many = self.chance.randrange(self.most_rows + 1)
        parts = []
        for at, name in enumerate(self.names):
            most = many if at == 0 else self.chance.randrange(4)
            parts.append((name, self.rows(most, self.names[at + 1:])))
        for name in self.probes:
            rows = self.chance.choice([parts[0], *parts])[1]
            rows.insert(self.chance.randrange(len(rows) + 1), self.probe(name))
        if self.chance.random() < 0.4:
            # All of the main part again and again.
            parts[0] = ("main", [("while", "ask", "again"), *parts[0][1], ("end",)])
        return Program(self.things, *parts)


def wild_settings(chance, program):
    """A base and a setting that it is within, for the probes of a program."""
    base, setting = Setting(), Setting()
    for name in program.probes:
        low, high = sorted([chance.randrange(3), chance.choice([0, 1, 2, 2, 2, 2])])
        base[name], setting[name] = ("out", "deaf", "on")[low], ("out", "deaf", "on")[high]
    return (Setting() if chance.random() < 0.7 else base), setting


def wild_contents(chance):
    return Contents(
        [chance.random() < 0.85 for _ in range(chance.randrange(24))],
        [chance.choice([0, 1, 2, 3, 5]) for _ in range(chance.randrange(12))],
        [chance.choice([(), ("a",), ("b", "a"), ("c", "a", "a")]) for _ in range(chance.randrange(4))],
    )
