"""Two runs compared [17]."""

import unittest

from quietprobes.comparing import Parting, compare
from quietprobes.contents import Contents
from quietprobes.errors import NoProbe, NotNested
from quietprobes.programs import Program
from quietprobes.settings import Setting
from tests.samples import same
from tests.samples_of_programs import mixed, program_of, things

NOTHING = Contents()
ON, DEAF = Setting("p"), Setting(deaf=["p"])
GET, TAKE, MARK = ("get", "t", "a"), ("take", "f"), ("mark", "n")


def probe(args=(), body=(), name="p", gate="always"):
    return "probe", name, gate, tuple(args), tuple(body)


def told(parting):
    return parting and (parting.rows, parting.row, parting.alike, parting.events, parting.thing, parting.trail)


class CompareTest(unittest.TestCase):
    def assert_parting(self, rows, wanted, contents=NOTHING, setting=ON, base=None):
        found = told(compare(program_of(*rows), contents, setting, base=base))
        self.assertTrue(same(found, wanted), (found, wanted))

    def test_alike(self):
        self.assert_parting([probe([GET]), ("peek", "t", "b")], None)
        self.assert_parting([probe([GET]), ("drop", "t", "a"), ("size", "t")], None)
        self.assert_parting([], None, setting=Setting())
        self.assert_parting([probe([("peek", "t", "a")], [("watch", "l")]), ("size", "t"), ("read", "l")], None)

    def test_attributes(self):
        rows = [("say", "hi"), probe([GET]), ("roll", "d"), ("size", "t")]
        self.assert_parting(rows, (4, 3, 2, (("size", "t", 0), ("size", "t", 1)), "t", [(1, "t")]))
        parting = compare(program_of(*rows), NOTHING, ON)
        self.assertIsInstance(parting, Parting)
        self.assertIs(type(parting.trail), list)

    def test_each_row(self):
        fetch, lift, keep, put = ("fetch", "f"), ("lift", "l"), ("keep", "n"), ("put", "t", "a")
        for ahead, look, row, base, setting in [
            (fetch, TAKE, ("take", "f"), (1, 0), (1, 1)), (fetch, ("drain", "f"), ("take", "f"), (1, 0), None),
            (keep, ("roll", "d"), ("roll", "d"), (0, 0), (0, 1)), (put, ("drop", "t", "a"), ("get", "t", "a"), 1, 0),
            (put, ("drop", "t", "a"), ("peek", "t", "a"), 1, None), (keep, GET, ("peek", "t", "a"), None, 0),
            (put, ("get", "t", "b"), ("size", "t"), 1, 2), (put, ("get", "t", "b"), ("keys", "t"), ("a",), ("a", "b")),
            (keep, ("look", "v"), ("glance", "v"), None, 0), (lift, ("read", "l"), ("read", "l"), True, False),
            (lift, ("read", "l"), ("watch", "l"), True, False), (keep, MARK, ("tell", "n"), 1, "p"),
        ]:
            name = row[1]
            wanted = (3, 2, 0, ((*row, base), (*row, setting)), name, [(1, name)])
            for rows, setting, lower in [
                ([ahead, probe([look]), row], ON, None), ([ahead, probe([look]), row], DEAF, None),
                ([ahead, probe((), [look]), row], ON, None), ([ahead, probe((), [look]), row], ON, DEAF),
            ]:
                with self.subTest(row=row, look=look, lower=lower):
                    self.assert_parting(rows, wanted, Contents(lengths=[2]), setting, lower)
            self.assert_parting([ahead, probe([look]), row], None, Contents(lengths=[2]), ON, DEAF)
            self.assert_parting([ahead, probe([look]), row], None, Contents(lengths=[2]), ON, ON)
            self.assert_parting([ahead, probe((), [look]), row], None, Contents(lengths=[2]), DEAF)

    def test_a_look_at_a_field(self):
        rows = [probe([("look", "v")]), ("change", "s"), ("look", "v")]
        self.assert_parting(rows, (3, 2, 0, (("look", "v", 1), ("look", "v", 0)), "v", [(0, "v")]))

    def test_each_test(self):
        end = ("end",)
        for word in ("if", "while"):
            rows = [("fetch", "f"), probe([TAKE]), (word, "take", "f"), end]
            events = ("take", "f", (1, 0)), ("take", "f", None)
            self.assert_parting(rows, (3, 2, 0, events, "f", [(1, "f")]), Contents(lengths=[1]))
            events = ("take", "f", (1, 0)), ("take", "f", (1, 1))
            self.assert_parting(rows, (3, 2, 0, events, "f", [(1, "f")]), Contents(lengths=[2]))
            self.assert_parting(rows, None, Contents(lengths=[0]))
        rows = [probe([GET]), ("if", "has", "t", "a"), end]
        self.assert_parting(rows, (2, 1, 0, (("has", "t", "a", False), ("has", "t", "a", True)), "t", [(0, "t")]))
        rows = [probe([MARK]), ("if", "bound", "n"), end]
        self.assert_parting(rows, (2, 1, 0, (("bound", "n", False), ("bound", "n", True)), "n", [(0, "n")]))
        rows = [("lift", "l"), probe([("read", "l")]), ("if", "read", "l"), end]
        self.assert_parting(rows, (3, 2, 0, (("read", "l", True), ("read", "l", False)), "l", [(1, "l")]))

    def test_in_loops_and_calls(self):
        rows = [("while", "ask", "w"), ("size", "t"), probe([GET], gate="second"), ("end",)]
        contents = Contents([True] * 5)
        self.assert_parting(rows, (10, 1, 5, (("size", "t", 0), ("size", "t", 1)), "t", [(2, "t")]), contents)
        program = Program(things(), ("main", [("call", "sub"), ("call", "sub")]), ("sub", [("size", "t"), probe([GET])]))
        parting = compare(program, NOTHING, ON)
        self.assertEqual(told(parting), (5, 2, 1, (("size", "t", 0), ("size", "t", 1)), "t", [(3, "t")]))

    def test_probes_that_are_out_count_as_rows(self):
        rows = [probe(name="q"), probe([GET]), probe(name="r"), ("size", "t")]
        self.assert_parting(rows, (4, 3, 0, (("size", "t", 0), ("size", "t", 1)), "t", [(1, "t")]))

    def test_very_many_items(self):
        rows = [("fetch", "f"), probe([("drain", "f")]), ("take", "f")]
        self.assert_parting(rows, (3, 2, 0, (("take", "f", (1, 0)), ("take", "f", None)), "f", [(1, "f")]),
                            Contents(lengths=[10 ** 30]))


class AssertTest(unittest.TestCase):
    HAS = ("assert", "p", "always", (), ("has", "t", "a"))
    SIZE = ("size", "t")

    def test_stopped_by_an_assert_that_is_not_on_in_the_base(self):
        program = program_of(self.HAS, ("say", "hi"))
        for base in [None, Setting(), DEAF]:
            self.assertIsNone(compare(program, NOTHING, ON, base=base))
        # What happens behind the failing assert, in the run with the base alone, is no parting.
        program = program_of(probe([GET], name="q"), ("assert", "p", "always", (), ("bound", "n")), self.SIZE)
        self.assertIsNone(compare(program, NOTHING, Setting("p", "q")))
        self.assertIsNotNone(compare(program, NOTHING, Setting("q", deaf=["p"])))
        self.assertIsNotNone(compare(program, NOTHING, Setting("q")))

    def test_an_assert_that_fails_behind_a_parting(self):
        program = program_of(probe([GET], name="q"), self.SIZE, ("assert", "p", "always", (), ("bound", "n")))
        self.assertEqual(compare(program, NOTHING, Setting("p", "q")).rows, 2)

    def test_events_that_are_left_out(self):
        program = program_of(("put", "t", "a"), self.HAS, ("say", "hi"), probe([GET, ("get", "t", "b")], name="q"), self.SIZE)
        events = (("size", "t", 1), ("size", "t", 2))
        for base, setting, alike in [
            (Setting(), Setting("p", "q"), 1), (DEAF, Setting("p", "q"), 1), (ON, Setting("p", "q"), 2),
            (DEAF, Setting("q", deaf=["p"]), 1), (Setting(), Setting("q"), 1),
        ]:
            found = told(compare(program, NOTHING, setting, base=base))
            self.assertEqual(found, (5, 4, alike, events, "t", [(3, "t")]))

    def test_on_in_both_and_fails_in_one(self):
        holds, fails = ("holds", "p"), ("fails", "p")
        program = program_of(("say", "hi"), probe([GET], name="q"), self.HAS, ("say", "no"))
        found = told(compare(program, NOTHING, Setting("p", "q"), base=ON))
        self.assertTrue(same(found, (3, 2, 1, (fails, holds), "t", [(1, "t")])), found)
        program = program_of(("put", "t", "a"), probe([("drop", "t", "a")], name="q"), self.HAS, ("say", "no"))
        found = told(compare(program, NOTHING, Setting("p", "q"), base=ON))
        self.assertTrue(same(found, (3, 2, 0, (holds, fails), "t", [(1, "t")])), found)
        for test, look, ahead, events in [
            (("bound", "n"), MARK, ("spy", "n"), (fails, holds)), (("read", "l"), ("read", "l"), ("lift", "l"), (holds, fails)),
            (("watch", "l"), ("read", "l"), ("lift", "l"), (holds, fails)),
        ]:
            first = ahead if ahead[0] != "spy" else ("say", "hi")
            program = program_of(first, probe([look], name="q"), ("assert", "p", "always", (), test))
            found = compare(program, NOTHING, Setting("p", "q"), base=ON)
            self.assertEqual((found.events, found.thing, found.trail, found.rows), (events, test[1], [(1, test[1])], 3))

    def test_on_in_both_and_fails_in_both(self):
        program = program_of(probe([("get", "t", "b")], name="q"), self.HAS, self.SIZE)
        self.assertIsNone(compare(program, NOTHING, Setting("p", "q"), base=ON))

    def test_on_in_both_and_holds_in_both(self):
        program = program_of(("put", "t", "a"), probe([("get", "t", "b")], name="q"), self.HAS, self.SIZE)
        self.assertEqual(compare(program, NOTHING, Setting("p", "q"), base=ON).alike, 1)

    def test_a_gate_keeps_both_from_acting(self):
        row = ("assert", "p", "later", (), ("has", "t", "a"))
        program = program_of(probe([GET], name="q"), row, self.SIZE)
        self.assertEqual(compare(program, NOTHING, Setting("p", "q"), base=ON).row, 2)

    def test_the_test_of_an_assert_is_extra(self):
        row = ("assert", "p", "always", (), ("read", "l"))
        program = program_of(("lift", "l"), row, ("watch", "l"))
        for setting in [ON, DEAF]:
            self.assertEqual(told(compare(program, NOTHING, setting)),
                             (3, 2, 0, (("watch", "l", True), ("watch", "l", False)), "l", [(1, "l")]))
        self.assertIsNone(compare(program, NOTHING, ON, base=DEAF))


class RefusedTest(unittest.TestCase):
    def assert_refused(self, error, setting, base):
        with self.assertRaises(type(error)) as caught:
            compare(mixed(), NOTHING, setting, base=base)
        self.assertEqual((type(caught.exception), caught.exception.name), (type(error), error.name))

    def test_no_probe_of_the_setting(self):
        self.assert_refused(NoProbe("b"), Setting("z", "b", "count"), None)
        self.assert_refused(NoProbe("b"), Setting("z", deaf=["b"]), Setting("a"))
        self.assert_refused(NoProbe("b"), Setting("b"), Setting("count"))

    def test_no_probe_of_the_base(self):
        self.assert_refused(NoProbe("a"), Setting(), Setting("b", "a"))
        self.assert_refused(NoProbe("zz"), Setting(), Setting("count", deaf=["zz"]))

    def test_not_nested(self):
        self.assert_refused(NotNested("count"), Setting(), Setting("last", "count"))
        self.assert_refused(NotNested("hold"), Setting("count"), Setting("last", "count", "hold"))
        self.assert_refused(NotNested("last"), Setting("count", deaf=["last"]), Setting("last", deaf=["count"]))
        self.assert_refused(NotNested("hold"), Setting("count", "last"), Setting(deaf=["hold"]))

    def test_nested(self):
        for setting, base in [
            (Setting("count"), Setting("count")), (Setting("count"), Setting(deaf=["count"])),
            (Setting(deaf=["count"]), Setting(deaf=["count"])), (Setting("count", "hold"), Setting(deaf=["hold"])),
        ]:
            self.assertIsNone(compare(mixed(), NOTHING, setting, base=base))

    def test_bases_that_are_the_same(self):
        program = program_of(probe([GET]), ("size", "t"))
        out = Setting("p")
        out["p"] = "out"
        found = [compare(program, NOTHING, ON), compare(program, NOTHING, ON, base=None),
                 compare(program, NOTHING, ON, base=Setting()), compare(program, NOTHING, ON, base=out)]
        self.assertEqual([told(parting) for parting in found], [told(found[0])] * 4)
        self.assertEqual(found[0].rows, 2)

    def test_settings_stay(self):
        setting, base = Setting("count", deaf=["hold"]), Setting(deaf=["count"])
        compare(mixed(), NOTHING, setting, base=base)
        self.assertTrue(setting == Setting("count", deaf=["hold"]) and base == Setting(deaf=["count"]))
