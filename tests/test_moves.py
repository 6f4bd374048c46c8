"""Moves of pairs [20]."""

import itertools
import unittest

from quietprobes.errors import BadPair, NoProbe, NotNested
from quietprobes.joint import first_pair, is_pair, moves
from quietprobes.programs import Program
from quietprobes.settings import Setting
from quietprobes.things import Thing
from tests.samples import ODD_OBJECTS, same

KINDS = {
    "f": Thing.feed("f"), "g": Thing.feed("g"), "d": Thing.dice("d"), "t": Thing.table("t", "a", "b"), "s": Thing.source("s"),
    "v": Thing.field("v", "s"), "w": Thing.field("w", "v"), "l": Thing.flag("l"), "n": Thing.slot("n"), "m": Thing.slot("m"),
}
END = ("end",)
PARTS = None
ON, DEAF, OUT = Setting("p"), Setting(deaf=["p"]), Setting()


def probe(args=(), body=(), gate="always", name="p"):
    return "probe", name, gate, tuple(args), tuple(body)


class MovesTest(unittest.TestCase):
    def moves_of(self, things, row, entries, setting=None, base=None, gates=()):
        """The moves of the first row of a program with one more row behind it."""
        rows = [row, END, ("say", "hi")] if row[0] in ("if", "while") else [row, ("say", "hi")]
        self.program = Program([KINDS[name] for name in things], ("main", rows))
        setting = Setting.every(self.program) if setting is None else setting
        pair = ((0,), (*entries, gates))
        self.assertTrue(is_pair(self.program, pair, setting), pair)
        return moves(self.program, pair, setting, base=base)

    def assert_moves(self, things, row, entries, wanted, **more):
        """Moves are told as choices and entries, without places and gates; None in the place of entries that part."""
        found = self.moves_of(things, row, entries, **more)
        short = []
        for choices, place, state in found:
            if place is None:
                self.assertIsNone(state)
            else:
                self.assertTrue(same((place, state[-1]), ((1,), ())), (place, state))
            short.append((choices, state and state[:-1]))
        self.assertTrue(same(short, wanted), (row, short, wanted))
        self.assertIs(type(found), list)


class FeedTest(MovesTest):
    def test_rows(self):
        even, ended, ahead = ((0, "even"),), ((0, "ended"),), ((0, "ahead"),)
        both = [((False,), ended), ((True,), even)]
        for row, wanted in [
            (("take", "f"), [both, [((), ended)], [((), PARTS)]]),
            (("skip", "f"), [both, [((), ended)], [((False,), ended), ((True,), ahead)]]),
            (("drain", "f"), [[((), ended)]] * 3), (("fetch", "f"), [[((), even)]] * 3),
            (("bind", "f", "f"), [[((), even)], [((), ended)], [((), ahead)]]),
        ]:
            for entries, found in zip([even, ended, ahead], wanted):
                self.assert_moves("f", row, entries, found)

    def test_tests(self):
        for word in ("if", "while"):
            for status, wanted in [
                ("even", [((False,), (2,), "ended"), ((True,), (1,), "even")]), ("ended", [((), (2,), "ended")]),
                ("ahead", [((), None, None)]),
            ]:
                found = self.moves_of("f", (word, "take", "f"), ((0, status),))
                wanted = [(choices, place, status and ((0, status), ())) for choices, place, status in wanted]
                self.assertTrue(same(found, wanted), found)

    def test_looks(self):
        even, ended, ahead = ((0, "even"),), ((0, "ended"),), ((0, "ahead"),)
        for look, base, wanted in [
            (("take", "f"), ON, [[((False,), ended), ((True,), even)], [((), ended)], [((False,), ended), ((True,), ahead)]]),
            (("drain", "f"), ON, [[((), ended)]] * 3),
            (("take", "f"), OUT, [[((False,), ended), ((True,), ahead)], [((), ended)], [((), ahead)]]),
            (("drain", "f"), OUT, [[((False,), ended), ((True,), ahead)], [((), ended)], [((), ahead)]]),
            (("spy", "f"), ON, [[((), even)], [((), ended)], [((), ahead)]]),
            (("spy", "f"), OUT, [[((), even)], [((), ended)], [((), ahead)]]),
        ]:
            for entries, found in zip([even, ended, ahead], wanted):
                self.assert_moves("f", probe([look]), entries, found, setting=ON, base=base)
                self.assert_moves("f", probe([look]), entries, found, setting=DEAF, base=base if base == OUT else DEAF)
                self.assert_moves("f", probe([], [look]), entries, found, setting=ON, base=base)
                if base == OUT:
                    self.assert_moves("f", probe([], [look]), entries, found, setting=ON, base=DEAF)
                self.assert_moves("f", probe([], [look]), entries, [((), entries)], setting=DEAF, base=base if base == OUT else DEAF)
                self.assert_moves("f", probe([look]), entries, [((), entries)], setting=OUT)

    def test_shared_rows(self):
        shared = ((0, "even"), (0, "even"))
        self.assert_moves("fg", ("take", "g"), shared, [((False,), ((0, "ended"), (0, "ended"))), ((True,), shared)])
        self.assert_moves("fg", probe([("take", "g")]), shared,
                          [((False,), ((0, "ended"), (0, "ended"))), ((True,), ((0, "ahead"), (0, "ahead")))], setting=ON)
        self.assert_moves("fg", ("take", "f"), ((0, "ahead"), (0, "ahead")), [((), PARTS)])
        self.assert_moves("fg", ("drain", "f"), ((0, "ahead"), (0, "ahead")), [((), ((0, "ended"), (0, "ended")))])
        self.assert_moves("fg", ("take", "f"), ((0, "ended"), (1, "ahead")), [((), ((0, "ended"), (1, "ahead")))])

    def test_fetch_and_bind(self):
        unlike, shared = ((0, "ahead"), (1, "ended")), ((0, "ahead"), (0, "ahead"))
        self.assert_moves("fg", ("fetch", "f"), unlike, [((), ((0, "even"), (1, "ended")))])
        self.assert_moves("fg", ("fetch", "g"), unlike, [((), ((0, "ahead"), (1, "even")))])
        self.assert_moves("fg", ("fetch", "f"), shared, [((), ((0, "even"), (1, "ahead")))])
        self.assert_moves("fg", ("fetch", "g"), shared, [((), ((0, "ahead"), (1, "even")))])
        self.assert_moves("fg", ("bind", "f", "g"), unlike, [((), ((0, "ended"), (0, "ended")))])
        self.assert_moves("fg", ("bind", "g", "f"), unlike, [((), shared)])
        self.assert_moves("fg", ("bind", "f", "g"), shared, [((), shared)])

    def test_numbers_of_many_rows(self):
        program = Program([Thing.feed(name) for name in "abcd"], ("main", [("bind", "a", "c"), ("fetch", "b"), ("bind", "c", "d"), ("say", "x")]))
        state = ((0, "even"), (1, "ended"), (2, "ahead"), (1, "ended"), ())
        for place, wanted in [
            (0, ((0, "ahead"), (1, "ended"), (0, "ahead"), (1, "ended"), ())), (1, ((0, "even"), (1, "even"), (2, "ahead"), (3, "ended"), ())),
            (2, ((0, "even"), (1, "ended"), (1, "ended"), (1, "ended"), ())),
        ]:
            self.assertTrue(same(moves(program, ((place,), state), OUT), [((), (place + 1,), wanted)]))


class DiceTest(MovesTest):
    def test_dice(self):
        even, ahead = ("even",), ("ahead",)
        for row, base, wanted in [
            (("roll", "d"), None, [even, PARTS]), (("seed", "d"), None, [even, even]), (probe([("roll", "d")]), None, [ahead, ahead]),
            (probe([("roll", "d")]), ON, [even, ahead]), (probe([("spy", "d")]), None, [even, ahead]),
            (probe([], [("roll", "d")]), DEAF, [ahead, ahead]), (probe([("roll", "d")], []), DEAF, [even, ahead]),
        ]:
            for entries, found in zip([even, ahead], wanted):
                self.assert_moves("d", row, entries, [((), found)], base=base)


class TableTest(MovesTest):
    EMPTY, A, B = (), (("a", 0),), (("b", 0),)

    def assert_table(self, row, first, second, wanted, **more):
        wanted = [((), PARTS if wanted is PARTS else (wanted,))]
        self.assert_moves("t", row, ((first, second),), wanted, **more)

    def test_rows(self):
        one, two, empty, both = (("a", 1),), (("a", 2),), (), (("b", 0), ("a", 1))
        for row, base, setting, wanted in [
            (("get", "t", "a"), empty, empty, (self.A, self.A)), (("get", "t", "a"), one, one, (one, one)), (("get", "t", "a"), one, two, PARTS),
            (("get", "t", "a"), empty, self.A, (self.A, self.A)), (("get", "t", "a"), one, empty, PARTS),
            (("get", "t", "b"), one, empty, ((("a", 1), ("b", 0)), self.B)), (("peek", "t", "a"), empty, self.A, PARTS),
            (("peek", "t", "b"), empty, self.A, (empty, self.A)), (("peek", "t", "a"), one, both, (one, both)),
            (("put", "t", "a"), empty, one, (one, one)), (("put", "t", "b"), one, empty, ((("a", 1), ("b", 2)), (("b", 2),))),
            (("put", "t", "a"), self.A, both, (one, (("b", 0), ("a", 1)))), (("fill", "t", "a"), empty, one, (one, two)),
            (("fill", "t", "a"), one, two, (one, two)), (("fill", "t", "a"), empty, empty, (one, one)),
            (("drop", "t", "a"), one, empty, (empty, empty)), (("drop", "t", "a"), both, one, (self.B, empty)),
            (("size", "t"), one, two, (one, two)), (("size", "t"), self.A, self.B, (self.A, self.B)), (("size", "t"), empty, one, PARTS),
            (("keys", "t"), self.A, self.B, PARTS), (("keys", "t"), one, two, (one, two)), (("keys", "t"), empty, one, PARTS),
            (("keys", "t"), (("a", 0), ("b", 0)), (("b", 0), ("a", 0)), PARTS), (("wipe", "t"), one, empty, (empty, empty)),
        ]:
            self.assert_table(row, base, setting, wanted)

    def test_an_unlike_order_has_the_same_size(self):
        base, setting = (("a", 0), ("b", 0)), (("b", 0), ("a", 0))
        self.assert_table(("size", "t"), base, setting, (base, setting))
        self.assert_table(("put", "t", "a"), base, setting, ((("a", 1), ("b", 0)), (("b", 0), ("a", 1))))

    def test_loads(self):
        first, last, both = (("a", 1),), (("b", 1),), (("a", 1), ("b", 2))
        wanted = [((False, False), (((), ()),)), ((False, True), ((last, last),)), ((True, False), ((first, first),)), ((True, True), ((both, both),))]
        for base, setting in [((), ()), ((("b", 1),), ()), ((("b", 1), ("a", 2)), (("a", 3),))]:
            self.assert_moves("t", ("load", "t"), ((base, setting),), wanted)

    def test_loads_of_tables_with_few_or_many_keys(self):
        for many in (0, 1, 4):
            program = Program([Thing.table("t", *"zyxw"[:many])], ("main", [("load", "t"), ("say", "hi")]))
            found = moves(program, first_pair(program), OUT)
            self.assertEqual([choices for choices, _, _ in found], list(itertools.product([False, True], repeat=many)))
            for choices, place, (entry, _) in found:
                content = tuple([(key, number) for number, key in enumerate([key for key, yes in zip("zyxw", choices) if yes], 1)])
                self.assertTrue(same((place, entry), ((1,), (content, content))))

    def test_looks(self):
        one, empty = (("a", 1),), ()
        for look, base, setting, common, extra in [
            (("get", "t", "a"), empty, one, (self.A, one), (empty, one)), (("get", "t", "a"), one, empty, (one, self.A), (one, self.A)),
            (("get", "t", "a"), empty, empty, (self.A, self.A), (empty, self.A)), (("drop", "t", "a"), one, one, (empty, empty), (one, empty)),
            (("drop", "t", "a"), one, empty, (empty, empty), (one, empty)), (("peek", "t", "a"), one, empty, (one, empty), (one, empty)),
            (("has", "t", "a"), one, empty, (one, empty), (one, empty)), (("size", "t"), one, empty, (one, empty), (one, empty)),
            (("keys", "t"), one, empty, (one, empty), (one, empty)), (("spy", "t"), one, empty, (one, empty), (one, empty)),
        ]:
            self.assert_table(probe([look]), base, setting, common, base=ON)
            self.assert_table(probe([look]), base, setting, common, base=DEAF)
            self.assert_table(probe([look]), base, setting, common, setting=DEAF, base=DEAF)
            self.assert_table(probe([look]), base, setting, extra)
            self.assert_table(probe([], [look]), base, setting, common, base=ON)
            self.assert_table(probe([], [look]), base, setting, extra, base=DEAF)
            self.assert_table(probe([], [look]), base, setting, (base, setting), setting=DEAF)

    def test_tests(self):
        one, empty = (("a", 1),), ()
        for base, setting, place in [(one, one, (1,)), (one, self.A, (1,)), (empty, empty, (2,)), (one, empty, None), (empty, one, None)]:
            found = self.moves_of("t", ("if", "has", "t", "a"), ((base, setting),))
            self.assertTrue(same(found, [((), place, place and ((base, setting), ()))]))


class ValueTest(MovesTest):
    def assert_one(self, things, row, entries, wanted, **more):
        self.assert_moves(things, row, entries, [((), wanted)], **more)

    def test_sources_and_fields(self):
        for row, entries, wanted in [
            (("change", "s"), (0, (None, 0)), (1, (None, 0))), (("change", "s"), (1, (None, 1)), (1, (None, 2))),
            (("change", "s"), (1, (2, 2)), (1, (2, 2))), (("look", "v"), (1, (None, None)), (1, (1, 1))),
            (("look", "v"), (1, (None, 1)), (1, (1, 1))), (("look", "v"), (1, (None, 0)), PARTS), (("look", "v"), (1, (2, 2)), (1, (2, 2))),
            (("look", "v"), (1, (1, 2)), PARTS), (("glance", "v"), (1, (None, 1)), PARTS), (("glance", "v"), (1, (2, 2)), (1, (2, 2))),
            (("glance", "v"), (0, (None, None)), (0, (None, None))), (("renew", "v"), (1, (0, 2)), (1, (None, None))),
        ]:
            self.assert_one("sv", row, entries, wanted)

    def test_fields_over_fields(self):
        for row, entries, wanted in [
            (("look", "w"), (1, (None, None), (None, None)), (1, (1, 1), (1, 1))), (("look", "w"), (1, (None, 0), (None, None)), PARTS),
            (("look", "w"), (1, (None, 1), (None, None)), (1, (1, 1), (1, 1))), (("look", "w"), (1, (0, 2), (3, 3)), (1, (0, 2), (3, 3))),
            (("look", "w"), (0, (None, None), (None, 0)), (0, (0, None), (0, 0))), (("look", "v"), (1, (None, None), (0, 2)), (1, (1, 1), (0, 2))),
            (("renew", "w"), (1, (0, 2), (3, None)), (1, (0, 2), (None, None))), (("renew", "v"), (1, (0, 2), (3, None)), (1, (None, None), (2, None))),
        ]:
            self.assert_one("svw", row, entries, wanted)

    def test_looks_at_fields(self):
        for look, entries, common, extra in [
            (("look", "v"), (1, (None, 0)), (1, (1, 0)), (1, (None, 0))), (("look", "v"), (1, (0, None)), (1, (0, 1)), (1, (0, 1))),
            (("look", "v"), (1, (None, None)), (1, (1, 1)), (1, (None, 1))), (("renew", "v"), (1, (0, 1)), (1, (None, None)), (1, (0, None))),
            (("glance", "v"), (1, (None, 0)), (1, (None, 0)), (1, (None, 0))), (("spy", "s"), (1, (None, 0)), (1, (None, 0)), (1, (None, 0))),
        ]:
            self.assert_one("sv", probe([look]), entries, common, base=DEAF)
            self.assert_one("sv", probe([], [look]), entries, common, base=ON)
            self.assert_one("sv", probe([look]), entries, extra)
            self.assert_one("sv", probe([], [look]), entries, extra, base=DEAF)

    def test_flags(self):
        for row, base, setting, wanted in [
            (("lift", "l"), False, True, (True, True)), (("read", "l"), True, True, (False, False)), (("read", "l"), True, False, PARTS),
            (("read", "l"), False, False, (False, False)), (("watch", "l"), False, True, PARTS), (("watch", "l"), True, True, (True, True)),
        ]:
            self.assert_one("l", row, ((base, setting),), wanted and (wanted,))
        for look, entry, common, extra in [
            (("read", "l"), (True, True), (False, False), (True, False)), (("read", "l"), (False, True), (False, False), (False, False)),
            (("watch", "l"), (False, True), (False, True), (False, True)),
        ]:
            self.assert_one("l", probe([look]), (entry,), (common,), base=DEAF)
            self.assert_one("l", probe([look]), (entry,), (extra,))
        for entry, place, behind in [((True, True), (1,), (False, False)), ((False, False), (2,), (False, False)), ((True, False), None, None),
                                     ((False, True), None, None)]:
            found = self.moves_of("l", ("if", "read", "l"), (entry,))
            self.assertTrue(same(found, [((), place, behind and (behind, ()))]))

    def test_slots(self):
        for row, first, second, wanted in [
            (("keep", "n"), (None, "p"), (1, 2), ((1, 1), (2, 3))), (("copy", "n", "m"), (None, "p"), (1, None), ((1, None), (1, None))),
            (("copy", "m", "n"), (1, 2), (3, 3), ((1, 2), (1, 2))), (("copy", "n", "n"), (None, "p"), (1, 2), ((None, "p"), (1, 2))),
            (("tell", "n"), (None, "p"), (1, 2), PARTS), (("tell", "n"), ("p", "p"), (1, 2), (("p", "p"), (1, 2))),
            (("tell", "n"), (None, None), (1, 2), ((None, None), (1, 2))), (("tell", "n"), (1, 2), (1, 2), PARTS),
        ]:
            rows = [row, ("say", "hi"), probe()]
            program = Program([KINDS["n"], KINDS["m"]], ("main", rows))
            found = moves(program, ((0,), (first, second, ())), OUT)
            self.assertTrue(same(found, [((), (1,), (*wanted, ())) if wanted else ((), None, None)]), (row, found))
        for look, entry, common, extra in [
            (("mark", "n"), (None, 1), ("p", "p"), (None, "p")), (("mark", "n"), ("p", None), ("p", "p"), ("p", "p")),
            (("mark", "n"), (1, 2), ("p", "p"), (1, "p")), (("tell", "n"), (1, 2), (1, 2), (1, 2)), (("bound", "n"), (None, 1), (None, 1), (None, 1)),
        ]:
            self.assert_one("n", probe([look]), (entry,), (common,), base=DEAF)
            self.assert_one("n", probe([look]), (entry,), (extra,))
            self.assert_one("n", probe([], [look]), (entry,), (extra,), base=DEAF)
        for entry, place in [((1, 2), (1,)), ((None, None), (2,)), ((1, None), None), ((None, 1), None)]:
            found = self.moves_of("n", ("if", "bound", "n"), (entry,))
            self.assertTrue(same(found, [((), place, place and (entry, ()))]))

    def test_serials_are_numbered_anew(self):
        # The table of the base loses its entry, so the numbers move up; a new serial is none of those that are there.
        self.assert_one("tsv", ("drop", "t", "a"), (((("a", 1),), (("b", 2),)), 3, (2, 1)), (((), (("b", 1),)), 2, (1, 3)))
        self.assert_one("tsv", ("put", "t", "a"), (((("a", 1),), (("b", 2),)), 3, (2, 1)),
                        (((("a", 1),), (("b", 2), ("a", 1))), 3, (2, 4)))


class FlowTest(unittest.TestCase):
    def assert_flow(self, rows, place, wanted, parts=(), setting=OUT):
        """Of a program without things but n: choices and places of the moves."""
        program = Program([KINDS["n"]], ("main", rows), *parts)
        found = moves(program, (place, ((None, None), ())), setting)
        self.assertTrue(same([move[:2] for move in found], wanted), found)
        for _, following, state in found:
            self.assertTrue(same(state, ((None, None), ()) if following else ()), state)

    def test_ask(self):
        self.assert_flow([("if", "ask", "w"), END], (0,), [((False,), ()), ((True,), (1,))])
        self.assert_flow([("if", "ask", "w"), ("else",), ("say", "x"), END], (0,), [((False,), (2,)), ((True,), (1,))])
        self.assert_flow([("while", "ask", "w"), END, ("say", "x")], (0,), [((False,), (2,)), ((True,), (1,))])

    def test_ends_and_elses(self):
        self.assert_flow([("while", "ask", "w"), END], (1,), [((), (0,))])
        self.assert_flow([("if", "ask", "w"), END, ("say", "x")], (1,), [((), (2,))])
        self.assert_flow([("if", "ask", "w"), ("else",), ("say", "x"), END, ("say", "x")], (1,), [((), (4,))])

    def test_say_and_stop(self):
        self.assert_flow([("say", "x"), ("say", "x")], (0,), [((), (1,))])
        self.assert_flow([("say", "x")], (0,), [((), ())])
        self.assert_flow([("stop",), ("say", "x")], (0,), [((), ())])

    def test_calls(self):
        parts = [("sub", [("say", "x"), ("stop",)]), ("none", ())]
        rows = [("call", "sub"), ("call", "none"), ("call", "none")]
        self.assert_flow(rows, (0,), [((), (0, 3))], parts)
        self.assert_flow(rows, (0, 3), [((), (0, 4))], parts)
        self.assert_flow(rows, (0, 4), [((), ())], parts)
        self.assert_flow(rows, (1,), [((), (2,))], parts)
        self.assert_flow(rows, (2,), [((), ())], parts)
        self.assert_flow(rows[:1], (0, 1), [((), ())], [("sub", [("say", "x")])])

    def test_over(self):
        program = Program([KINDS["n"]], ("main", [("say", "x"), probe()]))
        for base in [None, Setting(), ON]:
            found = moves(program, ((), ()), ON, base=base)
            self.assertTrue(same(found, []))
        self.assertEqual(moves(Program([], ("main", ())), ((), ()), OUT), [])

    def test_probes_go_on(self):
        for setting in [OUT, DEAF, ON]:
            self.assert_flow([probe(), ("say", "x")], (0,), [((), (1,))], setting=setting)
            self.assert_flow([probe()], (0,), [((), ())], setting=setting)


class GateTest(unittest.TestCase):
    def test_gates(self):
        rows = [("say", "hi"), probe([("get", "t", "a")], gate="always"), ("say", "hi")]
        for gate, ahead, acts, behind in [
            ("always", (), True, ()), ("first", (), True, ("p",)), ("first", ("p",), False, ("p",)), ("later", (), False, ("p",)),
            ("later", ("p",), True, ("p",)), ("second", (), False, ("p",)), ("second", ("p",), True, ()),
        ]:
            rows[1] = probe([("get", "t", "a")], gate=gate)
            program = Program([KINDS["t"]], ("main", rows))
            for setting, base in [(ON, None), (ON, DEAF), (DEAF, None), (DEAF, DEAF), (ON, ON)]:
                found = moves(program, ((1,), (((), ()), ahead)), setting, base=base)
                one = (("a", 0),)
                content = (one if acts and base is not None else (), one if acts else ())
                self.assertTrue(same(found, [((), (2,), (content, behind))]), (gate, ahead, found))
            found = moves(program, ((1,), (((), ()), ())), OUT)
            self.assertTrue(same(found, [((), (2,), (((), ()), ()))]))

    def test_the_order_of_gates(self):
        rows = [probe(gate="first", name="z"), probe(gate="later", name="a"), ("assert", "m", "second", (), ("bound", "n")), ("say", "hi")]
        program = Program([KINDS["n"]], ("main", rows))
        setting = Setting("z", "a", "m")
        for place, ahead, behind in [
            (0, ("a", "m"), ("z", "a", "m")), (1, ("z", "m"), ("z", "a", "m")), (2, ("z", "a"), ("z", "a", "m")), (2, (), ("m",)),
            (0, ("z", "a", "m"), ("z", "a", "m")),
        ]:
            found = moves(program, ((place,), ((1, 1), ahead)), setting)
            self.assertTrue(same(found, [((), (place + 1,), ((1, 1), behind))]), found)
        found = moves(program, ((2,), ((1, 1), ("z", "a", "m"))), setting)
        self.assertTrue(same(found, [((), (3,), ((1, 1), ("z", "a")))]), found)

    def test_other_rows_keep_the_gates(self):
        program = Program([KINDS["n"]], ("main", [("keep", "n"), probe(gate="first"), ("say", "hi")]))
        found = moves(program, ((0,), ((None, "p"), ("p",))), ON)
        self.assertTrue(same(found, [((), (1,), ((1, 1), ("p",)))]))


class LooksTest(MovesTest):
    def test_the_order_of_choices(self):
        even, ended, ahead = (0, "even"), (0, "ended"), (0, "ahead")
        two = ("take", "f"), ("take", "f")
        self.assert_moves("f", probe(two), (even,), [((False,), (ended,)), ((True, False), (ended,)), ((True, True), (even,))], base=ON)
        self.assert_moves("f", probe(two), (even,), [((False,), (ended,)), ((True,), (ahead,))])
        self.assert_moves("f", probe(two[:1], two[:1]), (even,),
                          [((False,), (ended,)), ((True, False), (ended,)), ((True, True), (ahead,))], base=DEAF)
        self.assert_moves("f", probe((("take", "f"), ("drain", "f"), ("take", "f"))), (even,), [((False,), (ended,)), ((True,), (ended,))],
                          base=ON)
        found = self.moves_of("fg", probe([("take", "g"), ("take", "f")]), ((0, "even"), (1, "even")), base=ON)
        self.assertEqual([choices for choices, _, _ in found], [(False, False), (False, True), (True, False), (True, True)])
        self.assertEqual([state[:2] for _, _, state in found], [
            ((0, "ended"), (1, "ended")), ((0, "even"), (1, "ended")), ((0, "ended"), (1, "even")), ((0, "even"), (1, "even"))])

    def test_six_looks(self):
        found = self.moves_of("f", probe([("take", "f")] * 6), ((0, "even"),), base=ON)
        self.assertEqual([choices for choices, _, _ in found], [(True,) * many + (False,) for many in range(6)] + [(True,) * 6])

    def test_common_then_extra(self):
        wanted = [((), (((("a", 0),), (("a", 0), ("b", 0))),))]
        self.assert_moves("t", probe([("get", "t", "a")], [("get", "t", "b")]), (((), ()),), wanted, base=DEAF)

    def test_several_probes(self):
        rows = [probe([("mark", "n")]), probe([("mark", "n")], name="q"), ("say", "hi")]
        program = Program([KINDS["n"]], ("main", rows))
        setting = Setting("p", "q")
        self.assertEqual(moves(program, ((0,), ((None, None), ())), setting, base=Setting("q")), [((), (1,), ((None, "p"), ()))])
        self.assertEqual(moves(program, ((1,), ((None, "p"), ())), setting, base=Setting("q")), [((), (2,), (("q", "q"), ()))])
        self.assertEqual(moves(program, ((1,), ((None, "p"), ())), setting), [((), (2,), ((None, "q"), ()))])


class AssertTest(unittest.TestCase):
    def assert_moves(self, test, thing, entry, setting, base, wanted, args=()):
        program = Program([thing], ("main", [("assert", "p", "always", args, test), ("say", "hi")]))
        found = moves(program, ((0,), (entry, ())), setting, base=base)
        self.assertTrue(same(found, wanted), (entry, found))

    def test_each_test(self):
        table, slot, flag = KINDS["t"], KINDS["n"], KINDS["l"]
        one = (("a", 0),)
        for test, thing, yes, no in [(("has", "t", "a"), table, one, ()), (("bound", "n"), slot, 1, None), (("watch", "l"), flag, True, False),
                                     (("read", "l"), flag, True, False)]:
            reads = test[0] == "read"
            for base, setting in itertools.product([yes, no], repeat=2):
                both = [((), (1,), ((no, no) if reads else (base, setting), ()))]
                alone = [((), (1,), ((base, no) if reads else (base, setting), ()))]
                over, parts = [((), (), ())], [((), None, None)]
                entry = (base, setting)
                with self.subTest(test=test, entry=entry):
                    self.assert_moves(test, thing, entry, ON, ON, parts if base != setting else both if base == yes else over)
                    self.assert_moves(test, thing, entry, ON, DEAF, both if setting == yes else over)
                    self.assert_moves(test, thing, entry, ON, None, alone if setting == yes else over)
                    self.assert_moves(test, thing, entry, DEAF, DEAF, both)
                    self.assert_moves(test, thing, entry, DEAF, None, alone)
                    self.assert_moves(test, thing, entry, OUT, None, [((), (1,), (entry, ()))])

    def test_args(self):
        one = (("a", 0),)
        args = (("get", "t", "a"),)
        for base, entry in [(None, ((), one)), (DEAF, (one, one)), (ON, (one, one))]:
            self.assert_moves(("has", "t", "a"), KINDS["t"], ((), ()), ON, base, [((), (1,), (entry, ()))], args)
        self.assert_moves(("has", "t", "a"), KINDS["t"], ((), one), ON, ON, [((), (1,), ((one, one), ()))], args)

    def test_choices_of_args(self):
        things = [KINDS["f"], KINDS["n"]]
        row = ("assert", "p", "always", (("take", "f"),), ("bound", "n"))
        program = Program(things, ("main", [row, ("say", "hi")]))
        found = moves(program, ((0,), ((0, "even"), (1, None), ())), ON, base=ON)
        self.assertTrue(same(found, [((False,), None, None), ((True,), None, None)]))
        found = moves(program, ((0,), ((0, "even"), (1, None), ())), ON, base=DEAF)
        self.assertTrue(same(found, [((False,), (), ()), ((True,), (), ())]))
        found = moves(program, ((0,), ((0, "even"), (1, None), ())), DEAF)
        self.assertTrue(same(found, [((False,), (1,), ((0, "ended"), (1, None), ())), ((True,), (1,), ((0, "ahead"), (1, None), ()))]))

    def test_an_assert_that_does_not_act(self):
        program = Program([KINDS["n"]], ("main", [("assert", "p", "first", (), ("bound", "n")), ("say", "hi")]))
        for base in [None, DEAF, ON]:
            found = moves(program, ((0,), ((1, None), ("p",))), ON, base=base)
            self.assertTrue(same(found, [((), (1,), ((1, None), ("p",)))]))

    def test_at_the_end_of_a_program(self):
        program = Program([KINDS["n"]], ("main", [("assert", "p", "always", (), ("bound", "n"))]))
        for entry in [(1, 1), (None, None)]:
            self.assertTrue(same(moves(program, ((0,), (entry, ())), ON), [((), (), ())]))


class RefusedTest(unittest.TestCase):
    PROGRAM = Program([KINDS["f"], KINDS["l"]], ("main", [probe([("take", "f")]), probe(name="q"), ("say", "hi")]))
    PAIR = ((0,), ((0, "ended"), (False, False), ()))

    def assert_refused(self, error, pair, setting, base=None):
        with self.assertRaises(type(error)) as caught:
            moves(self.PROGRAM, pair, setting, base=base)
        self.assertEqual(type(caught.exception), type(error))
        self.assertTrue(same(vars(caught.exception), vars(error)), vars(caught.exception))

    def test_bad_pair(self):
        for pair in [*ODD_OBJECTS, ((0,), ((0, "ended"), (0, 0), ())), ((5,), self.PAIR[1]), ((0,), ((1, "ended"), (False, False), ())), self.PAIR[1],
                     ((False,), self.PAIR[1]), ((0,), ((False, "ended"), (False, False), ())), ((), self.PAIR[1]), ((0,), ()), list(self.PAIR)]:
            self.assert_refused(BadPair(pair), pair, Setting("p"))

    def test_the_order_of_errors(self):
        bad = ((5,), ())
        self.assert_refused(NoProbe("a"), bad, Setting("z", "a"), Setting("b"))
        self.assert_refused(NoProbe("b"), bad, Setting(), Setting("b", "p"))
        self.assert_refused(NotNested("p"), bad, Setting(), Setting("q", "p"))
        self.assert_refused(NotNested("q"), bad, Setting("p", deaf=["q"]), Setting("p", "q"))
        self.assert_refused(BadPair(bad), bad, Setting("p"), Setting(deaf=["p"]))

    def test_bases_that_are_the_same(self):
        for base in [None, Setting()]:
            found = moves(self.PROGRAM, ((0,), ((0, "even"), (False, False), ())), Setting("p"), base=base)
            self.assertEqual([state and state[0] for _, _, state in found], [(0, "ended"), (0, "ahead")])
        self.assertEqual(moves(self.PROGRAM, self.PAIR, Setting("p")), [((), (1,), self.PAIR[1])])
