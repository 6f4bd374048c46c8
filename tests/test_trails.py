"""Trails: how an uneven thing became so [18]."""

import unittest

from quietprobes.comparing import compare
from quietprobes.contents import Contents
from quietprobes.programs import Program
from quietprobes.settings import Setting
from quietprobes.things import Thing
from tests.samples import same

THINGS = {
    "feed": [Thing.feed("f"), Thing.feed("g"), Thing.feed("h")],
    "dice": [Thing.dice("d")], "table": [Thing.table("t", "a", "b")], "flag": [Thing.flag("l")],
    "field": [Thing.source("s"), Thing.field("v", "s"), Thing.field("w", "v"), Thing.field("x", "w")],
    "slot": [Thing.slot("n"), Thing.slot("m"), Thing.slot("o")],
}
LENGTHS = Contents(lengths=[3, 4, 5])


def probe(name, args=(), body=(), gate="always"):
    return "probe", name, gate, tuple(args), tuple(body)


def parting_of(kinds, rows, setting, base=None, contents=LENGTHS, called=False):
    things = [thing for kind in kinds.split() for thing in THINGS[kind]]
    parts = [("main", [("call", "sub")]), ("sub", rows)] if called else [("main", rows)]
    return compare(Program(things, *parts), contents, setting, base=base)


class TrailTest(unittest.TestCase):
    def assert_trail(self, kinds, rows, thing, trail, setting=None, base=None, contents=LENGTHS):
        parting = parting_of(kinds, rows, setting or Setting("p"), base, contents)
        self.assertIsNotNone(parting)
        self.assertTrue(same((parting.thing, parting.trail), (thing, trail)), vars(parting))
        # The same rows in a part that is called: the call is row 0.
        parting = parting_of(kinds, rows, setting or Setting("p"), base, contents, called=True)
        self.assertTrue(same((parting.thing, parting.trail), (thing, [(number + 1, name) for number, name in trail])), vars(parting))

    def test_each_extra_deed(self):
        for kinds, rows, thing in [
            ("feed", [("fetch", "f"), probe("p", [("take", "f")]), ("take", "f")], "f"),
            ("feed", [("fetch", "f"), probe("p", [("drain", "f")]), ("take", "f")], "f"),
            ("dice", [("seed", "d"), probe("p", [("roll", "d")]), ("roll", "d")], "d"),
            ("table", [("put", "t", "a"), probe("p", [("get", "t", "b")]), ("size", "t")], "t"),
            ("table", [("put", "t", "a"), probe("p", [("drop", "t", "a")]), ("size", "t")], "t"),
            ("field", [("change", "s"), probe("p", [("look", "v")]), ("glance", "v")], "v"),
            ("field", [("look", "v"), probe("p", [("renew", "v")]), ("glance", "v")], "v"),
            ("flag", [("lift", "l"), probe("p", [("read", "l")]), ("watch", "l")], "l"),
            ("slot", [("keep", "n"), probe("p", [("mark", "n")]), ("tell", "n")], "n"),
            ("flag", [("lift", "l"), ("assert", "p", "always", (), ("read", "l")), ("watch", "l")], "l"),
        ]:
            self.assert_trail(kinds, rows, thing, [(1, thing)])
            if rows[1][0] == "probe":
                body = [rows[0], probe("p", (), rows[1][3]), rows[2]]
                self.assert_trail(kinds, body, thing, [(1, thing)], base=Setting(deaf=["p"]))
            self.assert_trail(kinds, rows, thing, [(1, thing)], setting=Setting(deaf=["p"]))

    def test_only_the_deed_that_makes_it_uneven(self):
        rows = [("fetch", "f"), probe("p", [("take", "f")]), probe("q", [("take", "f")]), ("take", "f")]
        self.assert_trail("feed", rows, "f", [(1, "f")], Setting("p", "q"))
        self.assert_trail("feed", rows, "f", [(2, "f")], Setting("q"))

    def test_even_again_in_between(self):
        rows = [probe("p", [("get", "t", "a")]), ("drop", "t", "a"), probe("q", [("get", "t", "b")]), ("size", "t")]
        self.assert_trail("table", rows, "t", [(2, "t")], Setting("p", "q"))
        rows = [probe("p", [("get", "t", "a"), ("drop", "t", "a")]), probe("q", [("get", "t", "b")]), ("size", "t")]
        self.assert_trail("table", rows, "t", [(1, "t")], Setting("p", "q"))
        # Even again within one probe, and uneven again in the next look.
        rows = [probe("p", [("get", "t", "a")]), probe("q", [("drop", "t", "a"), ("get", "t", "b")]), ("size", "t")]
        self.assert_trail("table", rows, "t", [(1, "t")], Setting("p", "q"))
        rows = [probe("p", [("mark", "n")]), ("keep", "n"), probe("q", [("mark", "n")]), ("tell", "n")]
        self.assert_trail("slot", rows, "n", [(2, "n")], Setting("p", "q"))
        rows = [("fetch", "f"), probe("p", [("take", "f")]), ("fetch", "f"), probe("q", [("take", "f")]), ("take", "f")]
        self.assert_trail("feed", rows, "f", [(3, "f")], Setting("p", "q"))
        # A common look makes it even again as well.
        rows = [probe("p", [("get", "t", "a")]), probe("q", [("drop", "t", "a")]), probe("r", [("get", "t", "b")]), ("size", "t")]
        self.assert_trail("table", rows, "t", [(2, "t")], Setting("p", "q", "r"), Setting("q"))

    def test_copies(self):
        rows = [probe("p", [("mark", "n")]), ("copy", "m", "n"), ("copy", "o", "m"), ("keep", "n"), ("keep", "m"), ("tell", "o")]
        self.assert_trail("slot", rows, "o", [(0, "n"), (1, "m"), (2, "o")])
        # Each copy counts, also onto a slot that was uneven before.
        rows = [probe("p", [("mark", "n"), ("mark", "m")]), ("copy", "m", "n"), ("tell", "m")]
        self.assert_trail("slot", rows, "m", [(0, "n"), (1, "m")])
        rows = [probe("p", [("mark", "n")]), ("copy", "m", "n"), ("copy", "n", "m"), ("copy", "m", "n"), ("tell", "m")]
        self.assert_trail("slot", rows, "m", [(0, "n"), (1, "m"), (2, "n"), (3, "m")])

    def test_copies_that_do_not_count(self):
        rows = [probe("p", [("mark", "n")]), ("copy", "n", "n"), ("tell", "n")]
        self.assert_trail("slot", rows, "n", [(0, "n")])
        rows = [probe("p", [("mark", "n")]), ("copy", "n", "m"), probe("q", [("mark", "n")]), ("tell", "n")]
        self.assert_trail("slot", rows, "n", [(2, "n")], Setting("p", "q"))
        # What the other slot becomes later does not matter.
        rows = [probe("p", [("mark", "n")]), ("copy", "m", "n"), ("keep", "n"), probe("q", [("mark", "n")]), ("tell", "m")]
        self.assert_trail("slot", rows, "m", [(0, "n"), (1, "m")], Setting("p", "q"))

    def test_an_extra_look_at_a_copied_slot(self):
        rows = [probe("p", [("mark", "n")]), ("copy", "m", "n"), probe("q", [("mark", "m")]), ("tell", "m")]
        self.assert_trail("slot", rows, "m", [(0, "n"), (1, "m")], Setting("p", "q"))

    def test_binds(self):
        rows = [("fetch", "f"), probe("p", [("take", "f")]), ("bind", "g", "f"), ("bind", "h", "g"), ("fetch", "f"), ("take", "h")]
        self.assert_trail("feed", rows, "h", [(1, "f"), (2, "g"), (3, "h")])
        rows = [("fetch", "f"), probe("p", [("take", "f")]), ("bind", "f", "f"), ("take", "f")]
        self.assert_trail("feed", rows, "f", [(1, "f")])
        rows = [("fetch", "f"), ("bind", "g", "f"), probe("p", [("take", "f")]), ("bind", "g", "f"), ("take", "g")]
        self.assert_trail("feed", rows, "g", [(2, "f"), (3, "g")])

    def test_feeds_that_share_a_row(self):
        rows = [("fetch", "f"), ("bind", "g", "f"), probe("p", [("take", "f")]), ("take", "g")]
        self.assert_trail("feed", rows, "g", [(2, "g")])
        rows = [("fetch", "f"), ("bind", "g", "f"), probe("p", [("drain", "g")]), ("fetch", "g"), ("take", "f")]
        self.assert_trail("feed", rows, "f", [(2, "f")])
        rows = [("fetch", "f"), ("bind", "g", "f"), probe("p", [("take", "g")]), ("bind", "h", "f"), ("take", "h")]
        self.assert_trail("feed", rows, "h", [(2, "f"), (3, "h")])

    def test_looks_of_both_runs(self):
        # p fills v alone; then the source changes, and the look of both gives w unlike values.
        filled = [probe("p", [("look", "v")]), ("change", "s")]
        rows = [*filled, probe("q", [("look", "w")]), ("renew", "v"), ("glance", "w")]
        self.assert_trail("field", rows, "w", [(0, "v"), (2, "w")], Setting("p", "q"), Setting("q"))
        rows = [*filled, probe("q", [("look", "x")]), ("renew", "v"), ("glance", "w")]
        self.assert_trail("field", rows, "w", [(0, "v"), (2, "w")], Setting("p", "q"), Setting("q"))
        rows = [*filled, probe("q", [("look", "x")]), ("renew", "v"), ("renew", "w"), ("glance", "x")]
        self.assert_trail("field", rows, "x", [(0, "v"), (2, "x")], Setting("p", "q"), Setting("q"))
        # The same in two steps: w is the first uneven one that x is over.
        rows = [*filled, probe("q", [("look", "w")]), probe("r", [("look", "x")]), ("glance", "x")]
        self.assert_trail("field", rows, "x", [(0, "v"), (2, "w"), (3, "x")], Setting("p", "q", "r"), Setting("q", "r"))
        rows = [*filled, probe("q", (), [("look", "w")]), ("glance", "w")]
        self.assert_trail("field", rows, "w", [(2, "w")], Setting("p", "q"), Setting(deaf=["q"]))

    def test_a_look_that_is_a_row(self):
        # w and v are filled alone, v is emptied: then a look of both runs at w fills v in the run with the base alone.
        rows = [probe("p", [("look", "w"), ("renew", "v")]), ("look", "w"), ("glance", "v")]
        self.assert_trail("field", rows, "v", [(0, "w"), (1, "v")])

    def test_the_thing_that_is_followed(self):
        # The deed names w, and the entry names v.
        rows = [probe("p", [("look", "w")]), ("glance", "v")]
        self.assert_trail("field", rows, "v", [(0, "v")])

    def test_the_noticed_thing_of_a_look(self):
        rows = [probe("p", [("look", "v")]), ("change", "s"), ("look", "x")]
        self.assert_trail("field", rows, "v", [(0, "v")])
        rows = [probe("p", [("look", "w")]), ("change", "s"), ("look", "x")]
        self.assert_trail("field", rows, "w", [(0, "w")])
        rows = [probe("p", [("look", "x")]), ("change", "s"), ("look", "x")]
        self.assert_trail("field", rows, "x", [(0, "x")])
        rows = [probe("p", [("look", "x"), ("renew", "x")]), ("change", "s"), ("renew", "w"), ("look", "x")]
        self.assert_trail("field", rows, "v", [(0, "v")])

    def test_the_noticed_thing_of_a_test(self):
        rows = [probe("p", [("mark", "n")]), ("if", "bound", "n"), ("end",)]
        self.assert_trail("slot", rows, "n", [(0, "n")])
        rows = [probe("p", [("get", "t", "a")]), ("say", "hi"), ("if", "has", "t", "a"), ("end",)]
        self.assert_trail("table", rows, "t", [(0, "t")])

    def test_the_base_is_not_empty(self):
        rows = [probe("p", [("get", "t", "a")], [("drop", "t", "a")]), ("size", "t")]
        self.assert_trail("table", rows, "t", [(0, "t")], Setting("p"), Setting(deaf=["p"]))
        self.assertIsNone(parting_of("table", rows, Setting("p")))

    def test_gates(self):
        rows = [("while", "ask", "w"), probe("p", [("take", "f")], (), "later"), ("skip", "f"), ("end",), ("take", "f")]
        self.assert_trail("feed", [("fetch", "f"), *rows], "f", [(2, "f")], contents=Contents([True] * 3, [9]))

    def test_in_a_loop(self):
        rows = [("while", "ask", "w"), ("copy", "m", "n"), probe("p", [("mark", "n")]), ("end",), ("tell", "m")]
        self.assert_trail("slot", rows, "m", [(2, "n"), (1, "m")], contents=Contents([True] * 2))
        self.assert_trail("slot", rows, "m", [(2, "n"), (1, "m")], contents=Contents([True] * 7))

    def test_thousands_of_entries(self):
        rows = [probe("p", [("mark", "n")], (), "first"), ("fetch", "f"), ("while", "take", "f"), ("copy", "m", "n"), ("copy", "n", "m"),
                ("end",), ("tell", "n")]
        trail = [(0, "n")] + [(3, "m"), (4, "n")] * 4000
        self.assert_trail("slot feed", rows, "n", trail, contents=Contents(lengths=[4000]))

    def test_a_new_trail_each_time(self):
        rows = [probe("p", [("mark", "n")]), ("tell", "n")]
        first = parting_of("slot", rows, Setting("p"))
        first.trail.append("more")
        self.assertEqual(parting_of("slot", rows, Setting("p")).trail, [(0, "n")])
