"""Programs that several tests share, and how a run goes through them, told from the document alone."""

from quietprobes.programs import Program
from quietprobes.things import Thing

COUNT = ("probe", "count", "always", (("get", "t", "a"),), ())
HOLD = ("assert", "hold", "first", (("look", "v"),), ("bound", "n"))
LAST = ("probe", "last", "later", (("take", "f"), ("mark", "n")), (("roll", "d"), ("spy", "l")))


def things():
    """A thing of each kind, and a second feed."""
    return [
        Thing.feed("f"), Thing.feed("g"), Thing.dice("d"), Thing.table("t", "a", "b"),
        Thing.source("s"), Thing.field("v", "s"), Thing.flag("l"), Thing.slot("n"),
    ]


def program_of(*rows):
    """A program with one part."""
    return Program(things(), ("main", rows))


def mixed():
    """A program with three parts, calls, blocks and three probes."""
    return Program(
        things(),
        ("main", (("fetch", "f"), COUNT, ("while", "take", "f"), ("if", "has", "t", "a"), ("call", "sub"), ("else",),
                  HOLD, ("end",), ("end",), ("call", "none"))),
        ("sub", (("take", "g"), LAST)),
        ("none", ()),
    )


class Over(Exception):
    """A run in the model is over."""


class Walk:
    """A run through a program, as trees of rows and blocks; it collects the places and what was answered there."""

    def __init__(self, program, answer):
        self.program, self.answer, self.steps = program, answer, []
        number = 0
        self.trees = {}
        for name, rows in program.parts:
            self.trees[name] = self.tree(list(enumerate(rows, number)))
            number += len(rows)

    def tree(self, rows):
        """A list of (number, row, blocks); the blocks of an if or while are lists behind their first numbers."""
        nodes = []
        while rows and rows[0][1] not in [("else",), ("end",)]:
            number, row = rows.pop(0)
            inner = []
            while row[0] in ("if", "while") and (not inner or inner[-1][0][1] != ("end",)):
                block = self.tree(rows)
                inner.append((rows.pop(0), block))
            nodes.append((number, row, inner))
        return nodes

    def go(self):
        """The list of (place, answer) of a run, with () at the end."""
        try:
            self.pass_nodes(self.trees[self.program.parts[0][0]], ())
        except Over:
            pass
        return [*self.steps, ((), None)]

    def step(self, place):
        found = self.answer()
        self.steps.append((place, found))
        return found

    def pass_nodes(self, nodes, calls):
        for number, row, inner in nodes:
            here = (*calls, number)
            found = self.step(here)
            if row[0] == "stop" or row[0] == "assert" and not found:
                raise Over()
            if row[0] == "call":
                self.pass_nodes(self.trees[row[1]], here)
            while row[0] == "while" and found:
                self.pass_nodes(inner[0][1], calls)
                self.step((*calls, inner[0][0][0]))
                found = self.step(here)
            if row[0] == "if" and (found or len(inner) == 2):
                last, block = inner[0] if found else inner[1]
                self.pass_nodes(block, calls)
                self.step((*calls, last[0]))


def places_of(program):
    """All places of a program but (), by the words of the document."""
    numbers = {}
    at = 0
    for name, rows in program.parts:
        numbers[name] = list(range(at, at + len(rows)))
        at += len(rows)
    places = []

    def gather(calls, name):
        for number in numbers[name]:
            places.append((*calls, number))
            if program.rows[number][0] == "call":
                gather((*calls, number), program.rows[number][1])

    gather((), program.parts[0][0])
    return places


def random_program(chance, most=60):
    """A program with blocks, calls and stops at random."""
    many = chance.randrange(1, 6)
    names = ["main", "one", "two", "three", "four"][:many]
    probes = 0
    left = most
    parts = []
    for at, name in enumerate(names):
        rows = []
        opened = []
        for _ in range(chance.randrange(min(16, left + 1))):
            picks = ["take", "take", "if", "while", "if", "probe", "assert"] + ["stop"] * (chance.random() < 0.2)
            picks += ["call", "call"] if at + 1 < many else []
            picks += ["end", "end"] if opened else []
            picks += ["else"] if opened and opened[-1] == "if" else []
            pick = chance.choice(picks)
            if len(opened) >= min(8, left - len(rows) - 2) and pick in ("if", "while"):
                pick = "take"
            if pick in ("if", "while"):
                opened.append(pick)
            if pick == "else":
                opened[-1] = "else"
            if pick == "end":
                opened.pop()
            probes += pick in ("probe", "assert")
            word = "abcdefghijklmnopqrstuvwxyz"[probes % 26] * (1 + probes // 26)
            rows.append({
                "take": ("take", "f"), "if": ("if", "ask", "w"), "while": ("while", "ask", "w"), "stop": ("stop",),
                "call": ("call", chance.choice(names[at + 1:] or ["none"])), "end": ("end",), "else": ("else",),
                "probe": ("probe", word, "always", (), ()), "assert": ("assert", word, "always", (), ("bound", "n")),
            }[pick])
            if left - len(rows) <= len(opened):
                break
        rows.extend([("end",)] * len(opened))
        left -= len(rows)
        parts.append((name, rows))
    return Program(things(), *parts)
