"""Limits of questions: more pairs are reached than that, whatever the answer would be [24]."""

import unittest

from quietprobes.errors import TooMany
from quietprobes.programs import Program
from quietprobes.settings import Setting
from quietprobes.things import Thing
from quietprobes.verdicts import failing, judge, partings

ON = Setting("p")


def probe(args=(), body=(), name="p", gate="always"):
    return "probe", name, gate, tuple(args), tuple(body)


def flags(many, *more):
    """A loop in which each of so many flags is lifted or not: it reaches a number of pairs that grows very fast."""
    names = "abcdefgh"[:many]
    rows = [("while", "ask", "w")]
    for name in names:
        rows += [("if", "ask", "x"), ("lift", name), ("end",)]
    rows += [*more, ("end",)]
    return Program([Thing.flag(name) for name in names], ("main", rows))


def straight(many, *rows):
    return Program([Thing.table("t", "a"), Thing.slot("n")], ("main", [*rows, *[("say", "hi")] * (many - len(rows))]))


class LimitTest(unittest.TestCase):
    def assert_limit(self, ask, many):
        """A question is answered with a limit of so many pairs, and refused with one less."""
        ask(limit=many)
        if many < 1000:
            ask(limit=many + 1)
            ask(limit=1000)
            ask()
        for limit in {1, many // 2, many - 1} - {0, many}:
            with self.assertRaises(TooMany) as caught:
                ask(limit=limit)
            self.assertEqual(caught.exception.limit, limit)

    def test_harmless(self):
        for many in (1, 2, 3, 10, 59):
            program = straight(many - 1)
            self.assertEqual(len(judge(program, Setting()).pairs), many)
            self.assert_limit(lambda **more: judge(program, Setting(), **more), many)
            self.assert_limit(lambda **more: partings(program, Setting(), **more), many)
            self.assert_limit(lambda **more: failing(program, Setting(), **more), many)

    def test_a_parting_ahead_of_the_limit(self):
        # The runs part in the fourth row at the latest; the other way reaches many pairs more.
        rows = [("if", "ask", "w"), probe([("get", "t", "a")]), ("size", "t"), ("end",)]
        program = straight(30, *rows)
        # All 30 rows but the end of the block are reached, and the end of the program.
        self.assertEqual((judge(program, ON).rows, len(judge(program, ON).pairs)), (3, 30))
        self.assert_limit(lambda **more: judge(program, ON, **more), 30)
        self.assert_limit(lambda **more: partings(program, ON, **more), 30)
        # With the setting itself as the base the end of the block is reached, with an entry.
        self.assert_limit(lambda **more: failing(program, ON, **more), 57)

    def test_the_pairs_of_failing(self):
        # Against all probes out the runs part at once.
        program = straight(6, probe([("mark", "n")]), ("tell", "n"))
        self.assertEqual(len(judge(program, ON).pairs), 2)
        self.assert_limit(lambda **more: failing(program, ON, **more), 7)
        # Against all probes out the assert stops the run with the setting, and the pairs go no further.
        program = straight(6, ("assert", "p", "always", (), ("bound", "n")))
        self.assertEqual(len(judge(program, ON).pairs), 2)
        self.assert_limit(lambda **more: failing(program, ON, **more), 2)
        self.assert_limit(lambda **more: failing(program, Setting(deaf=["p"]), **more), 7)

    def test_an_assert_that_fails_ahead_of_the_limit(self):
        program = straight(40, ("if", "ask", "w"), ("assert", "p", "always", (), ("bound", "n")), ("end",))
        self.assertEqual([told[:2] for told in failing(program, ON)], [("p", 2)])
        self.assert_limit(lambda **more: failing(program, ON, **more), 40)

    def test_the_base_counts(self):
        program = straight(5, ("keep", "n"), probe([("mark", "n")], gate="first"), ("copy", "n", "n"))
        for base in [None, Setting(deaf=["p"]), ON]:
            self.assert_limit(lambda **more: judge(program, ON, base=base, **more), 6)

    def test_a_thousand(self):
        program = flags(4)
        many = len(judge(program, Setting()).pairs)
        self.assertTrue(100 < many <= 1000)
        self.assert_limit(lambda **more: judge(program, Setting(), **more), many)
        self.assert_limit(lambda **more: partings(program, Setting(), **more), many)
        for ask in (lambda **more: judge(flags(7), Setting(), **more), lambda **more: partings(flags(7), Setting(), **more),
                    lambda **more: failing(flags(7), Setting(), **more)):
            for more in ({}, {"limit": 1000}, {"limit": 999}):
                with self.assertRaises(TooMany) as caught:
                    ask(**more)
                self.assertEqual(caught.exception.limit, more.get("limit", 1000))

    def test_exactly_a_thousand(self):
        for wanted in (998, 999, 1000):
            program = passing(wanted)
            self.assertEqual(len(judge(program, Setting()).pairs), wanted)
            self.assert_limit(lambda **more: judge(program, Setting(), **more), wanted)
        for ask in (judge, partings, failing):
            with self.assertRaises(TooMany) as caught:
                ask(passing(1001), Setting())
            self.assertEqual(caught.exception.limit, 1000)


def passing(many):
    """A program that reaches so many pairs, as parts are called again and again: each place is a pair of its own."""
    main = [("call", "one")] * 10 + [("say", "hi")] * (many - 991)
    return Program([], ("main", main), ("one", [("call", "two")] * 8 + [("say", "hi")] * 2), ("two", [("say", "hi")] * 11))
