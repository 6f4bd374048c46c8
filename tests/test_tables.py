"""Closed tables [22]."""

import random
import unittest

from quietprobes.errors import NoProbe, NotNested, TooMany
from quietprobes.joint import first_pair, moves
from quietprobes.programs import Program
from quietprobes.settings import Setting
from quietprobes.tables import is_closed
from quietprobes.things import Thing
from quietprobes.verdicts import judge
from tests.samples import ODD_OBJECTS
from tests.samples_of_programs import mixed
from tests.test_limits import flags
from tests.wild_programs import Wild, wild_settings

ON, DEAF = Setting("p"), Setting(deaf=["p"])


def probe(args=(), body=(), name="p", gate="always"):
    return "probe", name, gate, tuple(args), tuple(body)


# A probe that gets and drops an entry in a loop: harmless, with some pairs.
ROWS = [("while", "ask", "w"), probe([("get", "t", "a"), ("drop", "t", "a")], gate="later"), ("put", "t", "b"), ("size", "t"), ("end",)]
PROGRAM = Program([Thing.table("t", "a", "b"), Thing.source("s")], ("main", ROWS))


def spread(program, setting, pairs):
    """The pairs, and all that their moves lead to."""
    table = {pair: True for pair in pairs}
    left = list(table)
    for pair in left:
        for _, place, state in moves(program, pair, setting):
            if place is not None and (place, state) not in table:
                table[place, state] = True
                left.append((place, state))
    return left


class ClosedTest(unittest.TestCase):
    def assert_closed(self, wanted, table, program=PROGRAM, setting=ON, base=None):
        self.assertIs(is_closed(program, table, setting, base=base), wanted)

    def test_the_pairs_of_a_verdict(self):
        for setting, base in [(ON, None), (DEAF, None), (ON, DEAF), (ON, ON), (Setting(), None)]:
            pairs = judge(PROGRAM, setting, base=base).pairs
            self.assertGreater(len(pairs), 5)
            self.assert_closed(True, pairs, setting=setting, base=base)

    def test_order_repetitions_and_tuples(self):
        pairs = judge(PROGRAM, ON).pairs
        self.assert_closed(True, tuple(pairs))
        self.assert_closed(True, pairs[::-1])
        self.assert_closed(True, sorted(pairs, key=repr))
        self.assert_closed(True, pairs * 3)
        self.assert_closed(True, (*pairs[2:], *pairs, pairs[0], pairs[0]))

    def test_one_pair_left_out(self):
        pairs = judge(PROGRAM, ON).pairs
        for at in range(len(pairs)):
            self.assert_closed(False, pairs[:at] + pairs[at + 1:])
            self.assert_closed(False, [*pairs[:at], *pairs[at + 1:], *pairs[at + 1:]])

    def test_pairs_that_are_not_reached(self):
        pairs = judge(PROGRAM, ON).pairs
        # With an entry in both: its moves lead into more pairs, which are not there.
        more = ((0,), (((("b", 0),), (("b", 0),)), 0, ()))
        self.assertNotIn(more, pairs)
        self.assert_closed(False, [*pairs, more])
        # With all that its moves reach the table is closed again.
        table = spread(PROGRAM, ON, [*pairs, more])
        self.assertGreater(len(table), len(pairs) + 1)
        self.assert_closed(True, table)
        # With an entry in one run alone, a move of a pair that its moves lead to parts.
        more = ((2,), (((), (("a", 0),)), 0, ("p",)))
        self.assert_closed(False, spread(PROGRAM, ON, [*pairs, more]))
        # A pair whose moves lead into the table, though it is not reached.
        into = ((4,), (((), ()), 0, ()))
        self.assertNotIn(into, pairs)
        self.assertEqual([(place, state) for _, place, state in moves(PROGRAM, into, ON)], [pairs[0]])
        self.assert_closed(True, [*pairs, into])
        self.assert_closed(True, [into, *pairs])

    def test_a_pair_whose_moves_part(self):
        pairs = judge(PROGRAM, ON).pairs
        parts = ((3,), (((("a", 0),), ()), 0, ("p",)))
        self.assertEqual(moves(PROGRAM, parts, ON), [((), None, None)])
        for at in range(len(pairs) + 1):
            self.assert_closed(False, [*pairs[:at], parts, *pairs[at:]])

    def test_a_move_that_parts_leads_nowhere(self):
        # What would come behind the parting is in the table.
        program = Program(PROGRAM.things, ("main", [("size", "t"), ("say", "hi"), probe()]))
        entry = ((("a", 0),), ())
        behind = spread(program, ON, [first_pair(program), ((1,), (entry, 0, ()))])
        self.assert_closed(True, behind, program)
        self.assert_closed(False, [*behind, ((0,), (entry, 0, ()))], program)

    def test_a_member_that_is_no_pair(self):
        pairs = judge(PROGRAM, ON).pairs
        for thing in [*ODD_OBJECTS, pairs[0][1], list(pairs[0]), (*pairs[0], ()), (pairs[0],), ((), pairs[0][1]), ((9,), pairs[0][1])]:
            for at in (0, len(pairs)):
                self.assert_closed(False, [*pairs[:at], thing, *pairs[at:]])

    def test_a_member_that_only_equals_a_pair(self):
        pairs = judge(PROGRAM, ON).pairs
        first = pairs[0]
        self.assertEqual(first, ((0,), (((), ()), 0, ())))
        for twin in [((False,), first[1]), ((0,), (((), ()), False, ()))]:
            self.assertEqual(twin, first)
            self.assert_closed(False, [*pairs, twin])
            self.assert_closed(False, [twin, *pairs])
            self.assert_closed(False, [twin, *pairs[1:]])
        flag = Program([Thing.flag("l")], ("main", [("lift", "l")]))
        pairs = judge(flag, Setting()).pairs
        self.assert_closed(True, pairs, flag, Setting())
        self.assert_closed(False, [*pairs, ((0,), ((0, 0), ()))], flag, Setting())

    def test_any_object(self):
        for thing in [*ODD_OBJECTS, {}, set(), {first_pair(PROGRAM): True}, "table"]:
            self.assert_closed(False, thing)
        self.assert_closed(False, [])
        self.assert_closed(False, ())

    def test_the_empty_program(self):
        program = Program([], ("main", ()))
        self.assert_closed(True, [((), ())], program, Setting())
        self.assert_closed(False, [], program, Setting())
        self.assert_closed(False, [((), ()), ((0,), ((),))], program, Setting())

    def test_a_first_pair_that_is_not_there(self):
        self.assert_closed(False, [((), ())])

    def test_not_harmless(self):
        program = Program(PROGRAM.things, ("main", [probe([("get", "t", "a")]), ("if", "ask", "w"), ("size", "t"), ("end",)]))
        verdict = judge(program, ON)
        self.assertFalse(verdict)
        self.assert_closed(False, verdict.pairs, program)
        self.assert_closed(False, verdict.pairs * 2, program)
        self.assert_closed(True, judge(program, ON, base=ON).pairs, program, ON, ON)

    def test_a_table_of_another_setting(self):
        program = Program(PROGRAM.things, ("main", [probe([("get", "t", "a")]), ("say", "hi")]))
        pairs, others = judge(program, ON).pairs, judge(program, Setting()).pairs
        self.assert_closed(True, pairs, program)
        self.assert_closed(False, others, program)
        self.assert_closed(False, pairs, program, Setting())
        self.assert_closed(True, [*pairs, *others], program)

    def test_large_tables(self):
        program = flags(4)
        pairs = judge(program, Setting()).pairs
        self.assert_closed(True, pairs, program, Setting())
        self.assert_closed(False, pairs[:-1], program, Setting())
        # A table is not bound to the limit of questions.
        program = flags(6)
        self.assertRaises(TooMany, judge, program, Setting())
        table = spread(program, Setting(), [first_pair(program)])
        self.assertTrue(1000 < len(table) < 3000, len(table))
        self.assert_closed(True, table, program, Setting())
        self.assert_closed(False, table[:-1], program, Setting())

    def test_random_programs(self):
        closed = 0
        for seed in range(300):
            chance = random.Random(seed)
            program = Wild(chance, most_things=2, most_rows=8).program()
            base, setting = wild_settings(chance, program)
            verdict = judge(program, setting, base=base)
            self.assert_closed(verdict.is_harmless, verdict.pairs, program, setting, base)
            at = chance.randrange(len(verdict.pairs))
            self.assert_closed(False, verdict.pairs[:at] + verdict.pairs[at + 1:], program, setting, base)
            closed += verdict.is_harmless
        self.assertTrue(100 < closed < 300)


class RefusedTest(unittest.TestCase):
    def test_refused(self):
        for table in [None, [], "any", [((), ())]]:
            for error, setting, base in [
                (NoProbe("b"), Setting("z", "b"), Setting("a")), (NoProbe("a"), Setting(), Setting("count", "a")),
                (NotNested("count"), Setting("hold"), Setting("hold", "count", "last")),
            ]:
                with self.assertRaises(type(error)) as caught:
                    is_closed(mixed(), table, setting, base=base)
                self.assertEqual((type(caught.exception), caught.exception.name), (type(error), error.name))

    def test_bases_that_are_the_same(self):
        pairs = judge(PROGRAM, ON).pairs
        self.assertTrue(is_closed(PROGRAM, pairs, ON) and is_closed(PROGRAM, pairs, ON, base=None) and is_closed(PROGRAM, pairs, ON, base=Setting()))

    def test_the_table_stays(self):
        pairs = judge(PROGRAM, ON).pairs
        kept = list(pairs)
        is_closed(PROGRAM, pairs, ON)
        self.assertEqual(pairs, kept)
