"""The errors of programs that are made, in their order [11, 12]."""

import unittest

from quietprobes.errors import BadName, BadRow, NoKey, NoPart, NoThing, TooMany, Twice, Unmatched
from quietprobes.programs import Program
from quietprobes.things import Thing
from tests.samples import NAMES, NO_NAMES, ODD_OBJECTS, same
from tests.samples_of_programs import COUNT, HOLD, things

IF, WHILE, ELSE, END, STOP = ("if", "ask", "w"), ("while", "ask", "w"), ("else",), ("end",), ("stop",)
TAKE = ("take", "f")
# The things of samples_of_programs by their kinds.
KINDS = {"f": "feed", "g": "feed", "d": "dice", "t": "table", "s": "source", "v": "field", "l": "flag", "n": "slot"}
ROWS = [
    ("take", "f"), ("skip", "f"), ("drain", "f"), ("fetch", "f"), ("bind", "f", "g"), ("roll", "d"), ("seed", "d"),
    ("get", "t", "a"), ("peek", "t", "a"), ("put", "t", "a"), ("fill", "t", "a"), ("drop", "t", "a"), ("size", "t"),
    ("keys", "t"), ("load", "t"), ("wipe", "t"), ("change", "s"), ("look", "v"), ("glance", "v"), ("renew", "v"),
    ("lift", "l"), ("read", "l"), ("watch", "l"), ("keep", "n"), ("copy", "n", "n"), ("tell", "n"),
]
TESTS = [("take", "f"), ("has", "t", "a"), ("read", "l"), ("bound", "n")]
LOOKS = [
    ("take", "f"), ("drain", "f"), ("roll", "d"), ("get", "t", "a"), ("drop", "t", "a"), ("look", "v"), ("renew", "v"),
    ("read", "l"), ("mark", "n"), ("peek", "t", "a"), ("has", "t", "a"), ("size", "t"), ("keys", "t"), ("glance", "v"),
    ("watch", "l"), ("tell", "n"), ("bound", "n"),
]


def probe(*looks, name="p"):
    return ("probe", name, "always", looks, ())


def rows_with(look):
    """Rows in which a look stands at each place at which it can."""
    return [
        ("probe", "p", "always", (look,), ()), ("probe", "p", "always", (), (look,)),
        ("probe", "p", "always", (("spy", "f"),), (("spy", "g"), look, ("spy", "f"))),
        ("assert", "p", "always", (look,), ("bound", "n")),
    ]


class Making(unittest.TestCase):
    def assert_error(self, error, value, its_things, *parts):
        with self.assertRaises(error) as caught:
            Program(its_things, *parts)
        found = list(vars(caught.exception).values())[0]
        self.assertTrue(same(found, value), (found, parts))

    def assert_rows(self, error, value, *rows):
        """The error of rows alone, and behind and ahead of other rows; numbers are those of the row."""
        self.assert_error(error, value, things(), ("main", rows))
        self.assert_error(error, value, things(), ("main", list(rows)), ("sub", [1, IF]))
        behind = value + 2 if error in (BadRow, Unmatched) else value
        self.assert_error(error, behind, things(), ("ahead", [STOP]), ("other", [TAKE]), ("main", rows), ("sub", [1]))


class PartsTest(Making):
    def test_things_as_a_world(self):
        self.assert_error(Twice, "f", [Thing.feed("f"), Thing.slot("f")], ("main", ()))
        self.assert_error(NoThing, "s", [Thing.field("v", "s"), Thing.source("s")], ("main", ()))
        self.assert_error(TooMany, 8, [Thing.slot(name) for name in "abcdefghi"], ("main", ()))

    def test_things_ahead_of_parts(self):
        twice = [Thing.feed("f"), Thing.slot("f")]
        self.assert_error(Twice, "f", twice)
        self.assert_error(Twice, "f", twice, ("A", [1]), ("main", ()), ("main", ()))
        self.assert_error(NoThing, "s", [Thing.field("v", "s")])
        self.assert_error(TooMany, 8, [Thing.slot(name) for name in "abcdefghi"])
        self.assert_error(TooMany, 8, [Thing.slot(name) for name in "abcdefghi"], *[("a", ())] * 6)
        self.assert_error(TooMany, 8, tuple([Thing.slot(name) for name in "abcdefghi"]), ("main", [1]))

    def test_no_parts(self):
        self.assert_error(NoPart, None, [])
        self.assert_error(NoPart, None, things())

    def test_five_and_six_parts(self):
        self.assertEqual(len(Program([], *[(name, ()) for name in "abcde"]).parts), 5)
        self.assert_error(TooMany, 5, [], *[(name, ()) for name in "abcdef"])
        self.assert_error(TooMany, 5, [], *[("a", ())] * 6)
        self.assert_error(TooMany, 5, [], *[("A", ())] * 6)
        self.assert_error(TooMany, 5, [], *[(name, [STOP] * 11) for name in "abcdef"])
        self.assert_error(TooMany, 5, [], *[(name, [1]) for name in "abcdef"])

    def test_names_of_parts(self):
        for name in NAMES:
            self.assertEqual(Program([], (name, ())).parts, ((name, ()),))
        for bad in NO_NAMES:
            self.assert_error(BadName, bad, [], (bad, ()))
            self.assert_error(BadName, bad, [], ("a", ()), ("a", ()), (bad, ()), ("", ()))
            self.assert_error(BadName, bad, [], ("a", [STOP] * 61), (bad, ()))
            self.assert_error(BadName, bad, [], ("a", [1]), (bad, ()))
        self.assert_error(BadName, True, [], (True, ()), (1, ()))
        self.assert_error(BadName, [], [], ([], ()), ([], ()))

    def test_names_that_are_there_twice(self):
        self.assert_error(Twice, "a", [], ("a", ()), ("a", ()))
        self.assert_error(Twice, "b", [], ("a", ()), ("b", ()), ("b", ()), ("a", ()))
        self.assert_error(Twice, "a", [], ("a", ()), ("b", ()), ("a", ()), ("b", ()))
        self.assert_error(Twice, "a", [], ("a", [STOP] * 30), ("a", [STOP] * 31))
        self.assert_error(Twice, "a", [], ("a", [1]), ("a", [IF]))

    def test_sixty_and_sixty_one_rows(self):
        self.assertEqual(len(Program([], ("a", [STOP] * 30), ("b", ()), ("c", [STOP] * 30))), 60)
        self.assert_error(TooMany, 60, [], ("a", [STOP] * 61))
        self.assert_error(TooMany, 60, [], ("a", [STOP] * 30), ("b", ()), ("c", [STOP] * 31))
        self.assert_error(TooMany, 60, [], ("a", [1] * 61))
        self.assert_error(TooMany, 60, [], ("a", [IF] * 60), ("b", [END]))


class RowTest(Making):
    def test_objects_that_are_no_rows(self):
        bads = ["stop", ["stop"], ("stop", 1), ("has", "t", "a"), ("mark", "n"), (("stop",),)]
        bads += [("probe", "p", "always", [], ()), ("assert", "p", "always", (), TAKE), probe(*[("spy", "f")] * 7)]
        for bad in [*bads, *ODD_OBJECTS, *NO_NAMES]:
            self.assert_rows(BadRow, 0, bad)
            self.assert_rows(BadRow, 2, STOP, TAKE, bad, 1, STOP)

    def test_the_first_one_counts(self):
        self.assert_rows(BadRow, 1, TAKE, 1, ("take", "x"))
        self.assert_rows(NoThing, "x", TAKE, ("take", "x"), 1)
        self.assert_error(BadRow, 3, things(), ("a", [STOP]), ("b", ()), ("c", [STOP, STOP, 1]), ("d", [1]))

    def test_things_of_rows(self):
        for row in ROWS:
            Program(things(), ("main", [row]))
            for name in ["x", "a", "b", *KINDS]:
                if KINDS.get(name) != KINDS[row[1]]:
                    self.assert_rows(NoThing, name, (row[0], name, *row[2:]))

    def test_second_things_of_rows(self):
        for name in ["x", "d", "t", "s", "v", "l", "n"]:
            self.assert_rows(NoThing, name, ("bind", "f", name))
            self.assert_rows(NoThing, "x", ("bind", "x", name))
        for name in ["x", "d", "t", "s", "v", "l", "f"]:
            self.assert_rows(NoThing, name, ("copy", "n", name))
            self.assert_rows(NoThing, "x", ("copy", "x", name))

    def test_things_of_tests(self):
        for test in TESTS:
            Program(things(), ("main", [("if", *test), END]))
            for name in ["x", "w", *KINDS]:
                if KINDS.get(name) != KINDS[test[1]]:
                    self.assert_rows(NoThing, name, ("if", test[0], name, *test[2:]), END)
                    if test[0] != "take":
                        self.assert_rows(NoThing, name, ("assert", "p", "first", (), (test[0], name, *test[2:])))
        Program(things(), ("main", [("while", "take", "g"), END]))
        self.assert_rows(NoThing, "n", ("while", "take", "n"), END)
        self.assert_rows(NoThing, "d", ("assert", "p", "first", (), ("watch", "d")))

    def test_things_of_looks(self):
        for look in LOOKS:
            for row in rows_with(look):
                Program(things(), ("main", [row]))
            for name in ["x", "a", "p", *KINDS]:
                if KINDS.get(name) != KINDS[look[1]]:
                    for row in rows_with((look[0], name, *look[2:])):
                        self.assert_rows(NoThing, name, row)

    def test_spies_at_any_thing(self):
        for name in KINDS:
            for row in rows_with(("spy", name)):
                Program(things(), ("main", [row]))
        for name in ["x", "a", "p"]:
            for row in rows_with(("spy", name)):
                self.assert_rows(NoThing, name, row)

    def test_words_and_parts_are_no_things(self):
        for word in ["x", "f", "main"]:
            Program(things(), ("main", [("if", "ask", word), END, ("while", "ask", word), END, ("say", word)]))

    def test_keys(self):
        for key in ["c", "t", "f", "get"]:
            for word in ["get", "peek", "put", "fill", "drop"]:
                self.assert_rows(NoKey, key, (word, "t", key))
                self.assert_rows(NoThing, "x", (word, "x", key))
            for word in ["get", "peek", "has", "drop"]:
                for row in rows_with((word, "t", key)):
                    self.assert_rows(NoKey, key, row)
            self.assert_rows(NoKey, key, ("if", "has", "t", key), END)
            self.assert_rows(NoKey, key, ("assert", "p", "always", (), ("has", "t", key)))
            self.assert_rows(NoThing, "f", ("if", "has", "f", key), END)

    def test_keys_of_another_table(self):
        tables = [Thing.table("t", "a"), Thing.table("u", "b"), Thing.table("w")]
        Program(tables, ("main", [("get", "t", "a"), ("get", "u", "b")]))
        for table, key in [("t", "b"), ("u", "a"), ("w", "a")]:
            self.assert_error(NoKey, key, tables, ("main", [("get", table, key)]))

    def test_looks_one_after_another(self):
        key, thing = ("get", "t", "z"), ("take", "x")
        self.assert_rows(NoKey, "z", probe(key, thing))
        self.assert_rows(NoThing, "x", probe(thing, key))
        self.assert_rows(NoKey, "z", ("probe", "p", "always", (TAKE, key), (thing,)))
        self.assert_rows(NoThing, "x", ("probe", "p", "always", (thing,), (key,)))
        self.assert_rows(NoKey, "z", ("probe", "p", "always", (), (key, thing)))
        self.assert_rows(NoKey, "z", ("assert", "p", "always", (key,), ("bound", "x")))
        self.assert_rows(NoThing, "x", ("assert", "p", "always", (thing,), ("has", "t", "z")))
        self.assert_rows(NoThing, "y", ("assert", "p", "always", (("spy", "y"), key), ("bound", "x")))

    def test_probes_that_are_there_twice(self):
        self.assert_rows(Twice, "p", probe(), probe())
        self.assert_rows(Twice, "count", COUNT, HOLD, COUNT)
        self.assert_rows(Twice, "p", probe(), ("assert", "p", "first", (), ("bound", "n")))
        self.assert_rows(Twice, "p", ("assert", "p", "first", (), ("bound", "n")), probe(), 1)
        self.assert_error(Twice, "p", things(), ("a", [probe()]), ("b", [COUNT, probe()]))
        self.assert_error(Twice, "q", things(), ("a", [probe(), probe(name="q"), probe(name="q"), probe()]))

    def test_a_word_is_no_probe_a_second_time(self):
        Program(things(), ("p", [probe(), ("say", "p"), ("if", "ask", "p"), END]))

    def test_calls(self):
        for name in ["a", "b", "none", "f"]:
            self.assert_error(NoPart, name, things(), ("a", [STOP]), ("b", [("call", name)]), ("c", [STOP]))
        Program([], ("a", [("call", "b"), ("call", "c")]), ("b", [("call", "c")]), ("c", [STOP]))
        self.assert_error(NoPart, "c", [], ("a", ()), ("b", ()), ("c", [("call", "c")]))
        self.assert_error(NoPart, "a", [], ("a", [STOP, ("call", "a")]))

    def test_else_and_end_outside_of_blocks(self):
        self.assert_rows(Unmatched, 0, END)
        self.assert_rows(Unmatched, 0, ELSE)
        self.assert_rows(Unmatched, 1, STOP, ELSE, END)
        self.assert_rows(Unmatched, 2, IF, END, END)
        self.assert_rows(Unmatched, 2, IF, END, ELSE)
        self.assert_rows(Unmatched, 3, IF, ELSE, END, END, 1)
        self.assert_rows(Unmatched, 4, WHILE, IF, END, END, END)

    def test_else_in_a_while_and_a_second_else(self):
        self.assert_rows(Unmatched, 1, WHILE, ELSE, END)
        self.assert_rows(Unmatched, 2, IF, WHILE, ELSE, END, END)
        self.assert_rows(Unmatched, 2, IF, ELSE, ELSE, END)
        self.assert_rows(Unmatched, 4, IF, ELSE, IF, END, ELSE, END)
        self.assert_rows(Unmatched, 5, IF, IF, ELSE, TAKE, TAKE, ELSE, END, END)
        Program(things(), ("main", [IF, IF, ELSE, END, ELSE, WHILE, IF, ELSE, END, END, END]))

    def test_blocks_do_not_reach_into_other_parts(self):
        self.assert_error(Unmatched, 0, things(), ("a", [IF]), ("b", [END]))
        self.assert_error(Unmatched, 2, things(), ("a", [IF, END]), ("b", [END]))
        self.assert_error(Unmatched, 2, things(), ("a", [IF, END]), ("b", [ELSE]))

    def test_blocks_that_are_open_at_the_end(self):
        self.assert_rows(Unmatched, 0, IF)
        self.assert_rows(Unmatched, 1, STOP, WHILE, STOP)
        self.assert_rows(Unmatched, 1, IF, WHILE)
        self.assert_rows(Unmatched, 0, IF, WHILE, END)
        self.assert_rows(Unmatched, 0, IF, TAKE, ELSE, TAKE)
        self.assert_rows(Unmatched, 2, WHILE, TAKE, IF, ELSE, IF, END)
        self.assert_rows(Unmatched, 7, *[IF] * 8)

    def test_open_blocks_ahead_of_later_parts_and_behind_their_own(self):
        self.assert_error(Unmatched, 1, things(), ("a", [STOP, IF]), ("b", [1]))
        self.assert_error(Unmatched, 1, things(), ("a", [STOP, IF]), ("b", [("take", "x"), END]))
        self.assert_error(BadRow, 2, things(), ("a", [STOP, IF, 1]), ("b", ()))
        self.assert_error(NoThing, "x", things(), ("a", [IF, ("take", "x")]), ("b", ()))
        self.assert_error(TooMany, 8, things(), ("a", [IF] * 9))

    def test_eight_and_nine_blocks(self):
        for block in [IF, WHILE]:
            self.assert_rows(TooMany, 8, *[IF] * 8, block, *[END] * 9)
            self.assert_rows(TooMany, 8, *[WHILE] * 8, block, 1)
            self.assert_rows(TooMany, 8, *[block] * 3, END, *[block] * 7)
            self.assert_rows(TooMany, 8, *[IF, ELSE] * 8, block)
        Program(things(), ("main", [*[IF] * 8, END, WHILE, *[END] * 8]), ("sub", [*[IF] * 8, *[END] * 8]))

    def test_two_faults_of_one_row(self):
        ahead = [*[IF] * 8]
        self.assert_rows(BadRow, 1, probe(), ("probe", "p", "always", [("take", "x")], ()))
        self.assert_rows(BadRow, 0, ("call", "none", 1))
        self.assert_rows(NoThing, "x", probe(), probe(("take", "x")))
        self.assert_rows(NoKey, "z", probe(), probe(("get", "t", "z")))
        self.assert_rows(NoKey, "z", ("probe", "p", "always", (), ()), ("assert", "p", "first", (), ("has", "t", "z")))
        self.assert_rows(NoThing, "x", *ahead, ("if", "bound", "x"))
        self.assert_rows(NoKey, "z", *ahead, ("if", "has", "t", "z"))
        self.assert_rows(NoThing, "x", *ahead, ("while", "take", "x"))
        self.assert_rows(BadRow, 8, *ahead, ("while", "read", "l"))
        self.assert_rows(BadRow, 0, ("else", "x"))
        self.assert_rows(BadRow, 0, ["end"])


class KindsOfErrorsTest(Making):
    def test_a_refused_program_changes_nothing(self):
        its_things, rows = things(), [IF, COUNT]
        self.assert_error(Unmatched, 0, its_things, ("main", rows))
        self.assertEqual((its_things, rows), (things(), [IF, COUNT]))
