"""Joint states: the first pair, what is a pair, the normal form, and what is uneven [19, 20]."""

import unittest

from quietprobes.joint import first_pair, is_pair, normal, uneven
from quietprobes.programs import Program
from quietprobes.settings import Setting
from quietprobes.things import Thing
from tests.samples import NO_NAMES, ODD_OBJECTS, same

ROWS = [
    ("probe", "p", "first", (("mark", "n"),), ()), ("probe", "q", "always", (), ()), ("call", "sub"),
    ("assert", "r", "second", (), ("bound", "n")), ("say", "hi"),
]
THINGS = [
    Thing.feed("f"), Thing.dice("d"), Thing.feed("g"), Thing.table("t", "a", "b"), Thing.source("s"),
    Thing.field("v", "s"), Thing.flag("l"), Thing.slot("n"),
]
PROGRAM = Program(THINGS, ("main", ROWS), ("sub", [("probe", "z", "later", (), ()), ("say", "hi")]))
ALL = Setting("p", "q", "r", deaf=["z"])
# The places of the things in a state.
F, D, G, T, S, V, L, N, GATES = range(9)
STATE = ((0, "even"), "even", (1, "ahead"), ((("b", 1), ("a", 0)), ()), 2, (None, 1), (False, True), ("q", 3), ("p", "z"))


def changed(at, entry, state=STATE):
    return (*state[:at], entry, *state[at + 1:])


class FirstPairTest(unittest.TestCase):
    def test_each_kind(self):
        state = ((0, "ended"), "even", (1, "ended"), ((), ()), 0, (None, None), (False, False), (None, None), ())
        self.assertTrue(same(first_pair(PROGRAM), ((0,), state)))

    def test_many_feeds(self):
        program = Program([Thing.feed(name) for name in "abcdefgh"], ("main", [("say", "hi")]))
        self.assertTrue(same(first_pair(program), ((0,), (*[(at, "ended") for at in range(8)], ()))))

    def test_no_things(self):
        self.assertTrue(same(first_pair(Program([], ("main", [("say", "hi")]))), ((0,), ((),))))

    def test_a_first_part_without_rows(self):
        for parts in [[("main", ())], [("main", []), ("sub", [("say", "hi")])]]:
            for things in [[], THINGS]:
                self.assertTrue(same(first_pair(Program(things, *parts)), ((), ())))

    def test_a_first_part_that_begins_with_a_call(self):
        program = Program([], ("main", [("call", "sub")]), ("sub", ()))
        self.assertEqual(first_pair(program), ((0,), ((),)))


class IsPairTest(unittest.TestCase):
    def assert_pair(self, wanted, pair, program=PROGRAM, setting=ALL):
        self.assertIs(is_pair(program, pair, setting), wanted, pair)

    def assert_state(self, wanted, state, **more):
        self.assert_pair(wanted, ((0,), state), **more)

    def test_pairs(self):
        for place in [(0,), (1,), (2,), (3,), (2, 5), (2, 6)]:
            self.assert_pair(True, (place, STATE))
        self.assert_pair(True, ((), ()))
        self.assert_pair(True, first_pair(PROGRAM))

    def test_any_object(self):
        for thing in [*ODD_OBJECTS, *NO_NAMES, ((),), ((), (), ()), ((0,),), (STATE,), ((0,), STATE, ()), [(0,), STATE],
                      ((0,), list(STATE)), ([0], STATE), ((0,), None), (None, STATE), (True, STATE), STATE, (STATE, (0,))]:
            self.assert_pair(False, thing)

    def test_places(self):
        for place in [(5,), (6,), (7,), (-1,), (True,), (False,), ("0",), (0, 1), (2,) * 2, (2, 7), (2, 0), (None,), 0, "main", (0.0,)]:
            self.assert_pair(False, (place, STATE))
        self.assert_pair(True, ((4,), STATE))

    def test_over(self):
        for pair in [((), STATE), ((0,), ()), ((), ((),)), ((), []), ([], ()), [(), ()], ((), None), (None, ()), ((), False)]:
            self.assert_pair(False, pair)

    def test_no_things(self):
        program = Program([], ("main", [("probe", "p", "first", (), ())]))
        self.assert_pair(True, ((0,), ((),)), program)
        self.assert_pair(True, ((0,), (("p",),)), program)
        self.assert_pair(False, ((0,), ()), program)
        self.assert_pair(False, ((), ((),)), program)
        self.assert_pair(False, ((1,), ((),)), program)

    def test_an_entry_more_or_less(self):
        self.assert_state(False, STATE[:-1])
        self.assert_state(False, STATE[1:])
        self.assert_state(False, (*STATE, ()))
        self.assert_state(False, ((0, "even"), *STATE))
        self.assert_state(False, ((),))

    def test_each_entry_can_be_wrong(self):
        for at in range(9):
            for entry in [*ODD_OBJECTS, *NO_NAMES, list(STATE[at]) if isinstance(STATE[at], tuple) else [STATE[at]]]:
                if not (at == S and same(entry, 0)) and not (at == GATES and entry == ()):
                    self.assert_state(False, changed(at, entry))

    def test_feeds(self):
        for first, second in [
            ((0, "even"), (0, "even")), ((0, "ended"), (0, "ended")), ((0, "ahead"), (0, "ahead")), ((0, "ended"), (1, "even")),
        ]:
            self.assert_state(True, changed(F, first, changed(G, second)))
        for first, second in [
            ((1, "even"), (0, "even")), ((0, "even"), (2, "even")), ((1, "even"), (1, "even")), ((0, "even"), (0, "ended")),
            ((0, "even"), (0, "ahead")), ((-1, "even"), (0, "even")), ((False, "even"), (1, "even")), ((0, "even"), (True, "even")),
            ((0, "even"), (False, "even")), ((0, "Even"), (1, "even")), ((0, ""), (1, "even")), ((0, None), (1, "even")),
            ((0, "even", 0), (1, "even")), ((0,), (1, "even")), (("even", 0), (1, "even")), ([0, "even"], (1, "even")),
            ((0, "even"), (1, ["even"])), ((None, "even"), (1, "even")), (("0", "even"), (1, "even")), ((10 ** 39, "even"), (1, "even")),
        ]:
            self.assert_state(False, changed(F, first, changed(G, second)))

    def test_three_feeds(self):
        program = Program([Thing.feed(name) for name in "fgh"], ("main", [("say", "hi")]))
        for numbers in [(0, 0, 0), (0, 0, 1), (0, 1, 0), (0, 1, 1), (0, 1, 2)]:
            self.assert_state(True, (*[(number, "even") for number in numbers], ()), program=program)
        for numbers in [(0, 0, 2), (0, 1, 3), (0, 2, 1), (1, 0, 2), (0, 2, 2), (1, 1, 1)]:
            self.assert_state(False, (*[(number, "even") for number in numbers], ()), program=program)
        self.assert_state(True, ((0, "even"), (1, "ahead"), (0, "even"), ()), program=program)
        self.assert_state(False, ((0, "even"), (1, "ahead"), (0, "ahead"), ()), program=program)
        self.assert_state(False, ((0, "even"), (0, "even"), (0, "ended"), ()), program=program)

    def test_dice(self):
        self.assert_state(True, changed(D, "ahead"))
        for entry in ["ended", "", "eve", ("even",), ["even"], ("even", "even"), ("even", "ahead"), None, 0]:
            self.assert_state(False, changed(D, entry))

    def test_tables(self):
        for entry in [((), ()), ((("a", 0),), (("a", 0),)), ((("a", 1), ("b", 1)), (("b", 1), ("a", 0))), ((("b", 0), ("a", 1)), ())]:
            state = changed(T, entry, changed(S, 0, changed(V, (None, 0), changed(N, ("q", None)))))
            self.assert_state(True, state)
        for entry in [
            ((("c", 0),), ()), ((), (("c", 0),)), ((("a", 0), ("a", 0)), ()), ((("a", 0), ("b", 0), ("a", 0)), ()),
            ((("a", None),), ()), ((("a", False),), ()), ((("a", True),), ()), ((("a", -1),), ()), ((("a", "0"),), ()),
            ((["a", 0],), ()), ([("a", 0)], ()), ((), []), [(), ()], ((),), ((), (), ()), ((("a",),), ()), ((("a", 0, 0),), ()),
            (("a", 0), ()), (("a", "b"), ()), ((("a", "p"),), ()), ((("a", 2),), ()), ((("a", 10 ** 39),), ()), ((("a", (0,)),), ()),
            (((["a"], 0),), ()), (((("a",), 0),), ()), ((("A", 0),), ()), ((("", 0),), ()), ((), (("a", 0), None)), (0, 0), (None, None),
        ]:
            state = changed(T, entry, changed(S, 0, changed(V, (None, 0), changed(N, ("q", None)))))
            self.assert_state(False, state)

    def test_sources(self):
        self.assert_state(True, changed(S, 0, changed(N, (None, 2))))
        self.assert_state(True, changed(S, 1, changed(N, (None, 2))))
        for entry in [True, False, -1, None, "0", (2,), (2, 2), [2], "p", 3, 4]:
            self.assert_state(False, changed(S, entry))

    def test_fields(self):
        for entry in [(None, None), (0, None), (None, 0), (0, 0), (1, 1), (2, 1), (3, 3)]:
            self.assert_state(True, changed(V, entry, changed(N, ("q", None))))
        for entry in [(False, None), (None, False), (True, 1), (1, True), ("p", None), (-1, 0), (None,), (None, None, None), [None, None],
                      None, 0, ((), None), (4, None), ((0,), 0)]:
            self.assert_state(False, changed(V, entry, changed(N, ("q", None))))

    def test_flags(self):
        for entry in [(False, False), (True, False), (True, True)]:
            self.assert_state(True, changed(L, entry))
        for entry in [(0, 0), (1, 0), (0, True), (False, 0), (True, 1), (None, False), (False,), (True, True, True), [True, True], True,
                      "yes", ("True", True)]:
            self.assert_state(False, changed(L, entry))

    def test_slots(self):
        for entry in [(None, None), ("p", "z"), ("q", "r"), (1, "p"), (2, 1), (3, 3), (3, 4), (None, 3)]:
            self.assert_state(True, changed(N, entry))
        for entry in [(0, None), (None, 0), (False, None), (True, True), (-1, None), ("n", None), ("sub", None), ("pp", None), ("", None),
                      ("P", None), (None,), (None, None, None), [None, None], None, "p", (("p",), None), (["p"], None), (4, 3), (5, None)]:
            self.assert_state(False, changed(N, entry))

    def test_serials_by_their_first_appearance(self):
        for state in [changed(S, 1), changed(S, 3, changed(N, ("q", 2))), changed(V, (None, 4), changed(N, ("q", 3)))]:
            self.assert_state(False, state)
        self.assert_state(True, changed(V, (None, 3), changed(N, ("q", 4))))
        plain = changed(T, ((), ()), changed(S, 0, changed(V, (None, None), changed(N, (None, None)))))
        self.assert_state(True, plain)
        for at, good, bad in [
            (T, ((("a", 1), ("b", 2)), (("a", 2),)), ((("a", 2), ("b", 1)), ())), (T, ((), (("a", 1),)), ((), (("a", 2),))),
            (S, 1, 2), (V, (1, 2), (2, 1)), (V, (1, 1), (2, 2)), (N, (1, 2), (2, 1)), (N, ("p", 1), ("p", 2)),
        ]:
            self.assert_state(True, changed(at, good, plain))
            self.assert_state(False, changed(at, bad, plain))
        # All entries are read from left to right.
        self.assert_state(True, changed(T, ((("a", 1),), (("a", 2),)), changed(S, 3, changed(V, (4, 3), changed(N, (5, 1), plain)))))
        self.assert_state(False, changed(T, ((("a", 1),), (("a", 2),)), changed(S, 3, changed(V, (5, 3), changed(N, (4, 1), plain)))))
        self.assert_state(False, changed(T, ((("a", 1),), (("a", 3),)), changed(S, 2, plain)))

    def test_gates(self):
        for gates in [(), ("p",), ("r",), ("z",), ("p", "r"), ("p", "z"), ("r", "z"), ("p", "r", "z")]:
            self.assert_state(True, changed(GATES, gates))
        for gates in [("q",), ("z", "p"), ("r", "p"), ("p", "p"), ("p", "q"), ("n",), ("x",), (None,), (0,), (("p",),), ["p"], "p", None,
                      (["p"],), ("p", True), ("z", "r"), ("",)]:
            self.assert_state(False, changed(GATES, gates))

    def test_gates_of_probes_that_are_out(self):
        for setting in [Setting(), Setting("q"), Setting("r", "z")]:
            self.assert_state(False, changed(GATES, ("p",)), setting=setting)
            self.assert_state(True, changed(GATES, ()), setting=setting)
        for setting in [Setting("p"), Setting(deaf=["p"])]:
            self.assert_state(True, changed(GATES, ("p",)), setting=setting)
            self.assert_state(False, changed(GATES, ("p", "r")), setting=setting)

    def test_strange_probes_in_the_setting(self):
        setting = Setting("strange", "p", deaf=["other", "z"])
        self.assert_state(True, STATE, setting=setting)
        self.assert_state(False, changed(GATES, ("strange",)), setting=setting)
        self.assert_state(False, changed(N, ("strange", None)), setting=setting)

    def test_marks_of_probes_that_are_out(self):
        self.assert_state(True, changed(GATES, ()), setting=Setting())


class NormalTest(unittest.TestCase):
    def test_numbers(self):
        for state, wanted in [
            (STATE, STATE),
            (changed(T, ((("b", 7), ("a", 0)), ()), changed(S, 3, changed(V, (None, 7), changed(N, ("q", 5))))), STATE),
            (changed(T, ((("b", 2), ("a", 0)), ()), changed(S, 1, changed(V, (None, 2), changed(N, ("q", 10 ** 39))))), STATE),
            (changed(T, ((("a", 3), ("b", 2)), (("b", 1), ("a", 3))), changed(S, 2, changed(V, (1, 2), changed(N, (9, 3))))),
             changed(T, ((("a", 1), ("b", 2)), (("b", 3), ("a", 1))), changed(S, 2, changed(V, (3, 2), changed(N, (4, 1)))))),
        ]:
            found = normal(PROGRAM, state)
            self.assertTrue(same(found, wanted), (found, wanted))

    def test_nothing_else_changes(self):
        # Rows of feeds, flags and 0 are no serials.
        state = ((0, "ended"), "ahead", (1, "even"), ((), ()), 0, (0, None), (True, False), (None, None), ("p", "z"))
        self.assertTrue(same(normal(PROGRAM, state), state))
        state = changed(N, (5, "p"), changed(L, (True, True), state))
        self.assertTrue(same(normal(PROGRAM, state), changed(N, (1, "p"), state)))

    def test_no_things_and_over(self):
        program = Program([], ("main", [("say", "hi")]))
        self.assertTrue(same(normal(program, ((),)), ((),)))
        self.assertTrue(same(normal(PROGRAM, ()), ()))


class UnevenTest(unittest.TestCase):
    def test_each_kind(self):
        even = ((0, "even"), "even", (1, "ended"), ((), ()), 1, (None, None), (False, False), (None, None), ())
        self.assertTrue(same(uneven(PROGRAM, even), []))
        for at, name, entry in [
            (F, "f", (0, "ahead")), (D, "d", "ahead"), (G, "g", (1, "ahead")), (T, "t", ((("a", 0),), ())),
            (T, "t", ((("a", 0), ("b", 0)), (("b", 0), ("a", 0)))), (T, "t", ((("a", 0),), (("a", 1),))), (V, "v", (None, 0)),
            (V, "v", (1, 2)), (L, "l", (False, True)), (N, "n", (None, "p")), (N, "n", (2, "p")), (N, "n", ("p", "q")),
        ]:
            self.assertTrue(same(uneven(PROGRAM, changed(at, entry, even)), [name]))
        for at, entry in [(T, ((("a", 1),), (("a", 1),))), (V, (1, 1)), (L, (True, True)), (N, ("p", "p")), (GATES, ("p", "z"))]:
            self.assertTrue(same(uneven(PROGRAM, changed(at, entry, even)), []))

    def test_in_the_order_of_the_things(self):
        self.assertTrue(same(uneven(PROGRAM, STATE), ["g", "t", "v", "l", "n"]))
        self.assertTrue(same(uneven(PROGRAM, changed(F, (0, "ahead"), changed(G, (0, "ahead")))), ["f", "g", "t", "v", "l", "n"]))

    def test_over(self):
        self.assertTrue(same(uneven(PROGRAM, ()), []))

    def test_no_things(self):
        self.assertTrue(same(uneven(Program([], ("main", [("say", "hi")])), ((),)), []))
