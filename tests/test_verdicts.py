"""What is decided for all contents: judge, partings and failing [3, 21, 23]."""

import itertools
import unittest

from quietprobes.comparing import compare
from quietprobes.contents import Contents
from quietprobes.errors import NoProbe, NotNested
from quietprobes.joint import first_pair, is_pair, moves
from quietprobes.programs import Program
from quietprobes.runs import Run
from quietprobes.settings import Setting
from quietprobes.things import Thing
from quietprobes.verdicts import Verdict, failing, judge, partings
from tests.samples import same
from tests.samples_of_programs import mixed, program_of, things

END, LOOP, SIZE, GET = ("end",), ("while", "ask", "w"), ("size", "t"), ("get", "t", "a")
ON, DEAF = Setting("p"), Setting(deaf=["p"])


def probe(args=(), body=(), name="p", gate="always"):
    return "probe", name, gate, tuple(args), tuple(body)


def reached(program, setting, base=None):
    """All pairs that are reached, by the moves alone."""
    pairs = [first_pair(program)]
    for pair in pairs:
        for _, place, state in moves(program, pair, setting, base=base):
            if place is not None and (place, state) not in pairs:
                pairs.append((place, state))
    return pairs


class JudgeTest(unittest.TestCase):
    def assert_harmless(self, program, setting=ON, base=None):
        verdict = judge(program, setting, base=base)
        self.assertIsInstance(verdict, Verdict)
        self.assertTrue(same((verdict.is_harmless, bool(verdict)), (True, True)))
        self.assertTrue(same((verdict.contents, verdict.rows, verdict.parting), (None, None, None)))
        self.assert_pairs(verdict, program, setting, base)
        return verdict

    def assert_harmful(self, program, rows, row, setting=ON, base=None):
        verdict = judge(program, setting, base=base)
        self.assertIsInstance(verdict, Verdict)
        self.assertTrue(same((verdict.is_harmless, bool(verdict), verdict.rows), (False, False, rows)), vars(verdict))
        self.assertIsInstance(verdict.contents, Contents)
        self.assertLessEqual(max(verdict.contents.lengths, default=0), 10000)
        found, parting = compare(program, verdict.contents, setting, base=base), verdict.parting
        self.assertEqual(vars(found), vars(parting))
        self.assertEqual((parting.rows, parting.row), (rows, row))
        self.assert_pairs(verdict, program, setting, base)
        return verdict

    def assert_pairs(self, verdict, program, setting, base):
        self.assertIs(type(verdict.pairs), list)
        wanted = reached(program, setting, base)
        self.assertEqual(len(verdict.pairs), len(wanted))
        self.assertEqual(set(verdict.pairs), set(wanted))
        self.assertTrue(all(is_pair(program, pair, setting) for pair in verdict.pairs))

    def test_the_example_of_the_document(self):
        count = ("probe", "count", "always", (("get", "seen", "a"),), ())
        clean = ("probe", "clean", "always", (("drop", "seen", "a"),), ())
        program = Program([Thing.table("seen", "a")], ("main", (count, clean, ("size", "seen"))))
        self.assertIs(judge(program, Setting("count")).is_harmless, False)
        self.assertIs(judge(program, Setting("count", "clean")).is_harmless, True)
        self.assertEqual(judge(program, Setting("count")).parting.trail, [(0, "seen")])
        self.assert_harmful(program, 3, 2, Setting("count"))
        self.assert_harmless(program, Setting("count", "clean"))
        self.assert_harmless(program, Setting("clean"))

    def test_without_rows_and_probes(self):
        verdict = self.assert_harmless(Program([], ("main", ())), Setting())
        self.assertEqual(verdict.pairs, [((), ())])
        self.assertEqual(len(self.assert_harmless(program_of(("take", "f"), SIZE), Setting()).pairs), 3)

    def test_straight_on(self):
        self.assert_harmful(program_of(probe([GET]), SIZE), 2, 1)
        self.assert_harmless(program_of(SIZE, probe([GET])))
        self.assert_harmless(program_of(probe([GET]), ("wipe", "t"), SIZE))
        self.assert_harmless(program_of(probe([], [GET]), SIZE), DEAF)
        self.assert_harmful(program_of(probe([], [GET]), SIZE), 2, 1, ON, DEAF)
        self.assert_harmless(program_of(probe([GET]), SIZE), ON, DEAF)
        self.assert_harmless(program_of(probe([GET]), SIZE), ON, ON)
        self.assert_harmless(program_of(probe([GET]), SIZE), DEAF, DEAF)
        self.assert_harmless(program_of(probe([GET]), SIZE), Setting())

    def test_contents_are_found(self):
        verdict = self.assert_harmful(program_of(("fetch", "f"), probe([("take", "f")]), ("take", "f")), 3, 2)
        self.assertTrue(verdict.contents.lengths[0] >= 1)
        rows = [("fetch", "f"), ("take", "f"), ("skip", "f"), probe([("drain", "f")]), ("skip", "f"), ("take", "f")]
        verdict = self.assert_harmful(program_of(*rows), 6, 5)
        self.assertTrue(verdict.contents.lengths[0] >= 4)
        rows = [("load", "t"), ("if", "has", "t", "a"), ("if", "has", "t", "b"), probe([("drop", "t", "a")]), END, END, SIZE]
        self.assert_harmful(program_of(*rows), 7, 6)
        rows = [("if", "ask", "x"), ("if", "ask", "y"), ("else",), probe([GET]), END, END, SIZE]
        verdict = self.assert_harmful(program_of(*rows), 6, 6)
        self.assertEqual(verdict.contents.answers[:2], (True, False))

    def test_many_items_of_one_row(self):
        rows = [("fetch", "f"), *[("skip", "f")] * 20, *[probe([("take", "f")] * 6, name=name) for name in "pqrstuvwxy"],
                probe([("drain", "f")], name="z"), ("take", "f")]
        names = list("pqrstuvwxy")
        program = program_of(*rows)
        self.assert_harmful(program, 33, 32, Setting("z", *names), Setting(*names))
        verdict = judge(program, Setting("z", *names), base=Setting(*names))
        self.assertGreaterEqual(verdict.contents.lengths[0], 81)
        self.assert_harmless(program_of(*rows[:-1], ("drain", "f"), ("take", "f")), Setting("z", *names), Setting(*names))

    def test_several_fetchings(self):
        rows = [("fetch", "f"), ("bind", "g", "f"), ("fetch", "f"), ("take", "f"), ("take", "g"), ("take", "g"), probe([("take", "g")]),
                ("if", "take", "f"), ("take", "g"), END]
        verdict = self.assert_harmful(program_of(*rows), 9, 8)
        self.assertTrue(verdict.contents.lengths[0] >= 3 and verdict.contents.lengths[1] >= 2)

    def test_a_feed_that_was_never_fetched(self):
        # g keeps its empty row of the beginning, whatever is fetched for f.
        for fetchings in range(1, 6):
            rows = [*[("fetch", "f")] * fetchings, ("take", "g"), ("take", "f"), probe([("take", "f")]), ("take", "g"), ("take", "f")]
            verdict = self.assert_harmful(program_of(*rows), fetchings + 5, fetchings + 4)
            self.assertGreaterEqual(verdict.contents.lengths[fetchings - 1], 2)

    def test_the_fewest_rows(self):
        # A long way that comes first in the order of choices, and a short one.
        rows = [("if", "ask", "w"), probe([GET]), ("else",), ("say", "a"), ("say", "b"), probe([GET], name="q"), ("say", "c"), END, SIZE]
        self.assert_harmful(program_of(*rows), 4, 8, Setting("p", "q"))
        self.assert_harmful(program_of(*rows), 7, 8, Setting("q"))

    def test_loops(self):
        rows = [LOOP, SIZE, probe([GET], gate="second"), END]
        self.assert_harmful(program_of(*rows), 10, 1)
        rows = [LOOP, probe([GET], gate="later"), ("if", "ask", "x"), ("wipe", "t"), END, END, SIZE]
        verdict = self.assert_harmful(program_of(*rows), 10, 6)
        self.assertEqual(verdict.contents.answers[:4], (True, False, True, False))
        rows = [("fetch", "f"), ("while", "take", "f"), probe([("take", "f")], gate="later"), END]
        verdict = self.assert_harmful(program_of(*rows), 8, 1)
        self.assertEqual(verdict.parting.events, (("take", "f", (1, 2)), ("take", "f", None if verdict.contents.lengths[0] == 3 else (1, 3))))

    def test_calls_and_blocks(self):
        sub = ("sub", [("if", "read", "l"), ("call", "deep"), END, ("watch", "l")])
        deep = ("deep", [("lift", "l"), probe([("read", "l")]), ("stop",)])
        program = Program(things(), ("main", [("lift", "l"), ("call", "sub")]), sub, deep)
        self.assert_harmless(program)
        deep = ("deep", [("lift", "l"), probe([("read", "l")])])
        program = Program(things(), ("main", [("lift", "l"), ("call", "sub")]), sub, deep)
        self.assert_harmful(program, 8, 5)

    def test_several_probes(self):
        probes = [probe([GET]), probe([("drop", "t", "a")], name="q"), probe([("mark", "n")], name="r")]
        program = program_of(*probes, SIZE, ("tell", "n"))
        self.assert_harmless(program, Setting("p", "q"))
        self.assert_harmful(program, 4, 3, Setting("p"))
        self.assert_harmful(program, 5, 4, Setting("p", "q", "r"))
        self.assert_harmless(program, Setting("p", "q", "r"), Setting("r"))

    def test_asserts(self):
        row = ("assert", "p", "always", (), ("has", "t", "a"))
        self.assert_harmless(program_of(row, SIZE))
        self.assert_harmful(program_of(probe([GET], name="q"), row, SIZE), 2, 1, Setting("p", "q"), ON)
        self.assert_harmful(program_of(probe([GET], name="q"), row, SIZE), 3, 2, Setting("p", "q"), DEAF)
        # The assert stops the run with the setting wherever the entry is not there in both.
        rows = [("load", "t"), probe([("drop", "t", "a")], name="q"), row, SIZE]
        self.assert_harmless(program_of(*rows), Setting("p", "q"))
        self.assert_harmful(program_of(*rows), 4, 3, Setting("q"))

    def test_new_lists_each_time(self):
        program = program_of(probe([GET]), SIZE)
        verdict = judge(program, ON)
        verdict.pairs.clear()
        verdict.parting.trail.clear()
        again = judge(program, ON)
        self.assertEqual((len(again.pairs), again.parting.trail), (2, [(0, "t")]))

    def test_a_setting_that_is_changed_behind_it(self):
        setting = Setting("p")
        verdict = judge(program_of(probe([GET]), SIZE), setting)
        setting["p"] = "out"
        self.assertEqual((verdict.is_harmless, verdict.rows, verdict.parting.row), (False, 2, 1))

    def test_no_contents_part_them_earlier(self):
        rows = [("fetch", "f"), LOOP, probe([("take", "f")]), ("if", "ask", "x"), ("fetch", "f"), END, ("if", "ask", "y"), ("take", "f"), END, END]
        verdict = self.assert_harmful(program_of(*rows), 6, 7)
        for answers in itertools.product([False, True], repeat=4):
            for lengths in itertools.product(range(4), repeat=2):
                parting = compare(program_of(*rows), Contents(answers, lengths), ON)
                self.assertTrue(parting is None or parting.rows >= verdict.rows)


class PartingsTest(unittest.TestCase):
    def assert_partings(self, program, wanted, setting=ON, base=None):
        found = partings(program, setting, base=base)
        self.assertTrue(same([told[:2] for told in found], wanted), found)
        for number, rows, contents in found:
            self.assertIsInstance(contents, Contents)
            parting = compare(program, contents, setting, base=base)
            self.assertEqual((parting.row, parting.rows), (number, rows))

    def test_partings(self):
        self.assert_partings(program_of(probe([GET]), SIZE), [(1, 2)])
        self.assert_partings(program_of(SIZE, probe([GET])), [])
        self.assert_partings(program_of(probe([GET]), SIZE, ("keys", "t")), [(1, 2)])
        rows = [probe([GET]), ("if", "ask", "w"), ("keys", "t"), ("else",), ("say", "hi"), SIZE, END]
        self.assert_partings(program_of(*rows), [(2, 3), (5, 4)])
        self.assert_partings(program_of(*rows), [], ON, ON)
        self.assert_partings(program_of(*rows), [], Setting())
        self.assert_partings(Program([], ("main", ())), [], Setting())

    def test_ascending(self):
        rows = [LOOP, ("if", "ask", "x"), SIZE, END, ("if", "ask", "y"), ("peek", "t", "a"), END, probe([GET]), ("keys", "t"), END]
        self.assert_partings(program_of(*rows), [(8, 5)])
        rows = [LOOP, ("if", "ask", "x"), SIZE, END, ("if", "ask", "y"), ("peek", "t", "a"), END, probe([GET]), END]
        self.assert_partings(program_of(*rows), [(2, 8), (5, 9)])

    def test_a_row_of_a_part(self):
        program = Program(things(), ("main", [("call", "sub"), probe([GET]), ("if", "ask", "w"), ("call", "sub"), END, ("keys", "t")]),
                          ("sub", [SIZE]))
        self.assert_partings(program, [(5, 5), (6, 6)])

    def test_asserts(self):
        row = ("assert", "p", "always", (), ("has", "t", "a"))
        self.assert_partings(program_of(probe([GET], name="q"), row, SIZE), [(1, 2)], Setting("p", "q"), ON)
        self.assert_partings(program_of(probe([GET], name="q"), row, SIZE), [(2, 3)], Setting("p", "q"), DEAF)
        self.assert_partings(program_of(probe([GET], name="q"), row, SIZE), [(2, 3)], Setting("p", "q"))

    def test_tests(self):
        rows = [("fetch", "f"), probe([("take", "f")]), ("while", "take", "f"), END]
        self.assert_partings(program_of(*rows), [(2, 3)])


class FailingTest(unittest.TestCase):
    def assert_failing(self, program, setting, wanted):
        found = failing(program, setting)
        self.assertTrue(same([told[:2] for told in found], wanted), found)
        for name, rows, contents in found:
            run = Run(program, contents, setting)
            run.finish()
            self.assertEqual((run.failed, run.rows), (name, rows))

    def test_failing(self):
        has, bound = ("assert", "p", "always", (), ("has", "t", "a")), ("assert", "q", "always", (), ("bound", "n"))
        self.assert_failing(program_of(has), ON, [("p", 1)])
        self.assert_failing(program_of(("put", "t", "a"), has), ON, [])
        self.assert_failing(program_of(has), DEAF, [])
        self.assert_failing(program_of(has), Setting(), [])
        self.assert_failing(program_of(("load", "t"), has, bound), Setting("p", "q"), [("p", 2), ("q", 3)])
        # Where the first one always fails, the second one is not reached.
        self.assert_failing(program_of(has, bound), Setting("p", "q"), [("p", 1)])
        self.assert_failing(program_of(has, bound), Setting("q", deaf=["p"]), [("q", 2)])
        self.assert_failing(program_of(probe()), ON, [])
        self.assert_failing(Program([], ("main", ())), Setting(), [])

    def test_in_the_order_of_rows(self):
        rows = [("if", "ask", "w"), ("say", "a"), ("say", "b"), ("assert", "z", "always", (), ("bound", "n")), ("else",),
                ("assert", "a", "always", (), ("bound", "n")), END]
        self.assert_failing(program_of(*rows), Setting("a", "z"), [("z", 4), ("a", 2)])

    def test_what_the_probes_do(self):
        row = ("assert", "p", "always", (), ("has", "t", "a"))
        self.assert_failing(program_of(probe([GET], name="q"), row), Setting("p"), [("p", 2)])
        self.assert_failing(program_of(probe([GET], name="q"), row), Setting("p", deaf=["q"]), [])
        self.assert_failing(program_of(probe([], [GET], name="q"), row), Setting("p", deaf=["q"]), [("p", 2)])
        self.assert_failing(program_of(("put", "t", "a"), probe([("drop", "t", "a")], name="q"), row), Setting("p", "q"), [("p", 3)])
        self.assert_failing(program_of(("lift", "l"), ("assert", "p", "always", (("read", "l"),), ("read", "l"))), ON, [("p", 2)])

    def test_gates_and_loops(self):
        rows = [LOOP, ("assert", "p", "later", (), ("bound", "n")), ("if", "ask", "x"), ("keep", "n"), END, END]
        self.assert_failing(program_of(*rows), ON, [("p", 6)])
        rows = [("fetch", "f"), ("while", "take", "f"), ("assert", "p", "second", (), ("watch", "l")), END]
        self.assert_failing(program_of(*rows), ON, [("p", 6)])

    def test_at_the_end_and_in_calls(self):
        program = Program(things(), ("main", [("call", "sub")]), ("sub", [("load", "t"), ("assert", "p", "always", (), ("has", "t", "b"))]))
        self.assert_failing(program, ON, [("p", 3)])


class RefusedTest(unittest.TestCase):
    def assert_refused(self, error, call, *given, **more):
        with self.assertRaises(type(error)) as caught:
            call(mixed(), *given, **more)
        self.assertEqual((type(caught.exception), caught.exception.name), (type(error), error.name))

    def test_refused(self):
        for call in (judge, partings):
            for limit in (1, 1000):
                self.assert_refused(NoProbe("b"), call, Setting("z", "b"), base=Setting("a"), limit=limit)
                self.assert_refused(NoProbe("a"), call, Setting(), base=Setting("count", "a"), limit=limit)
                self.assert_refused(NotNested("count"), call, Setting("hold"), base=Setting("hold", "count", "last"), limit=limit)
        self.assert_refused(NoProbe("b"), failing, Setting("z", "b"), limit=1)

    def test_bases_that_are_the_same(self):
        program = program_of(probe([GET]), SIZE)
        for base in [None, Setting()]:
            self.assertEqual((judge(program, ON, base=base).rows, partings(program, ON, base=base)[0][:2]), (2, (1, 2)))
        self.assertEqual((judge(program, ON).rows, partings(program, ON)[0][:2]), (2, (1, 2)))
