"""Probes during a run: modes, gates, looks and asserts [9, 10, 16]."""

import unittest

from quietprobes.contents import Contents
from quietprobes.runs import Run
from quietprobes.settings import Setting
from tests.samples import same
from tests.samples_of_programs import program_of

LOOP, END = ("while", "ask", "w"), ("end",)
ARGS = (("roll", "d"),)
BODY = (("get", "t", "a"),)
MODES = {"out": Setting(), "deaf": Setting(deaf=["p"]), "on": Setting("p")}


def turns(row, mode, times, *ahead):
    """A run that has reached a probe so many times."""
    run = Run(program_of(*ahead, LOOP, row, END), Contents([True] * times), MODES[mode])
    run.finish()
    return run


def acted(gate, times):
    """How often a probe with this gate acts when it is reached so often."""
    return {"always": times, "first": min(times, 1), "later": max(times - 1, 0), "second": times // 2}[gate]


class GateTest(unittest.TestCase):
    def test_modes_and_gates(self):
        for gate in ("always", "first", "later", "second"):
            for times in range(7):
                many = acted(gate, times)
                row = ("probe", "p", gate, ARGS, BODY)
                for mode, rolled, entries in [("out", 0, ()), ("deaf", many, ()), ("on", many, (("a", 0),) * (many > 0))]:
                    world = turns(row, mode, times).world_so_far()
                    with self.subTest(gate=gate, times=times, mode=mode):
                        self.assertEqual((world["d"], world["t"]), ((0, rolled), entries))

    def test_body_is_done_each_time(self):
        for gate in ("always", "first", "later", "second"):
            world = turns(("probe", "p", gate, (), ARGS), "on", 7).world_so_far()
            self.assertEqual(world["d"], (0, acted(gate, 7)))

    def test_times_of_each_probe(self):
        rows = [LOOP, ("probe", "p", "first", ARGS, ()), ("if", "ask", "x"), ("probe", "q", "first", ARGS, ()), END, END]
        run = Run(program_of(*rows), Contents([True, False, True, True, True, True]), Setting("p", "q"))
        run.finish()
        self.assertEqual(run.world_so_far()["d"], (0, 2))
        rows = [LOOP, ("probe", "p", "second", ARGS, ()), ("probe", "q", "later", ARGS, ()), END]
        run = Run(program_of(*rows), Contents([True] * 4), Setting("q", deaf=["p"]))
        run.finish()
        self.assertEqual(run.world_so_far()["d"], (0, 5))

    def test_times_of_each_run(self):
        program = program_of(LOOP, ("probe", "p", "first", ARGS, ()), END)
        for _ in range(2):
            run = Run(program, Contents([True] * 3), Setting("p"))
            run.finish()
            self.assertEqual(run.world_so_far()["d"], (0, 1))

    def test_events(self):
        for mode in MODES:
            for gate in ("always", "second"):
                run = turns(("probe", "p", gate, ARGS, BODY), mode, 2)
                self.assertEqual(run.events_so_far(), [("ask", "w", True), ("ask", "w", True), ("ask", "w", False)])
                self.assertEqual(run.rows, 7)


class LooksTest(unittest.TestCase):
    def content(self, name, args, body, mode, *ahead):
        run = Run(program_of(*ahead, ("probe", "p", "always", args, body)), Contents(lengths=[3]), MODES[mode])
        run.finish()
        return run.world_so_far()[name]

    def test_each_look(self):
        fetch, look, lift, keep, put = ("fetch", "f"), ("look", "v"), ("lift", "l"), ("keep", "n"), ("put", "t", "a")
        for deed, ahead, before, behind in [
            (("take", "f"), fetch, (1, 0, 3), (1, 1, 3)), (("drain", "f"), fetch, (1, 0, 3), (1, 3, 3)),
            (("roll", "d"), fetch, (0, 0), (0, 1)), (("get", "t", "b"), put, (("a", 1),), (("a", 1), ("b", 0))),
            (("drop", "t", "a"), put, (("a", 1),), ()), (("look", "v"), fetch, None, 0), (("renew", "v"), look, 0, None),
            (("read", "l"), lift, True, False), (("mark", "n"), keep, 1, "p"),
            (("peek", "t", "b"), put, (("a", 1),), (("a", 1),)), (("has", "t", "b"), put, (("a", 1),), (("a", 1),)),
            (("size", "t"), put, (("a", 1),), (("a", 1),)), (("keys", "t"), put, (("a", 1),), (("a", 1),)),
            (("glance", "v"), fetch, None, None), (("watch", "l"), lift, True, True), (("tell", "n"), keep, 1, 1),
            (("bound", "n"), keep, 1, 1), (("spy", "f"), fetch, (1, 0, 3), (1, 0, 3)), (("spy", "t"), put, (("a", 1),), (("a", 1),)),
        ]:
            for args, body in [((deed,), ()), ((), (deed,))]:
                with self.subTest(deed=deed, args=args):
                    self.assertTrue(same(self.content(deed[1], args, body, "out", ahead), before))
                    self.assertTrue(same(self.content(deed[1], args, body, "deaf", ahead), behind if args else before))
                    self.assertTrue(same(self.content(deed[1], args, body, "on", ahead), behind))

    def test_order_of_looks(self):
        keys = [("get", "t", "b"), ("drop", "t", "b"), ("get", "t", "a")]
        self.assertEqual(self.content("t", tuple(keys), (), "on"), (("a", 0),))
        self.assertEqual(self.content("t", (keys[0],), (keys[2], keys[1]), "on"), (("a", 0),))
        self.assertEqual(self.content("t", (keys[1],), (keys[0], keys[2]), "on"), (("b", 0), ("a", 0)))

    def test_marks(self):
        rows = [("probe", "p", "always", (("mark", "n"),), ()), ("tell", "n"), ("assert", "q", "always", (("mark", "n"),), ("bound", "n")),
                ("tell", "n"), ("copy", "n", "n"), ("probe", "r", "always", (), (("mark", "n"),)), ("tell", "n")]
        run = Run(program_of(*rows), Contents(), Setting("q", deaf=["p", "r"]))
        self.assertEqual(run.finish(), [("tell", "n", "p"), ("holds", "q"), ("tell", "n", "q"), ("tell", "n", "q")])
        run = Run(program_of(*rows), Contents(), Setting("r", deaf=["q"]))
        self.assertEqual(run.finish(), [("tell", "n", None), ("tell", "n", "q"), ("tell", "n", "r")])


class AssertTest(unittest.TestCase):
    TESTS = [(("has", "t", "a"), ("put", "t", "a")), (("bound", "n"), ("keep", "n")),
             (("read", "l"), ("lift", "l")), (("watch", "l"), ("lift", "l"))]

    def run_of(self, test, mode, *ahead, gate="always", args=()):
        return Run(program_of(*ahead, ("assert", "p", gate, args, test), ("say", "on")), Contents(), MODES[mode])

    def test_on_and_holds(self):
        for test, deed in self.TESTS:
            run = self.run_of(test, "on", deed)
            self.assertEqual([run.step(), run.step(), run.step()], [None, ("holds", "p"), ("say", "on")])
            self.assertTrue(run.failed is None and run.is_over and run.rows == 3)

    def test_on_and_fails(self):
        for test, _ in self.TESTS:
            run = self.run_of(test, "on")
            self.assertEqual(run.step(), ("fails", "p"))
            self.assertTrue(same((run.failed, run.place, run.is_over, run.rows), ("p", (), True, 1)))
            self.assertEqual((run.events_so_far(), run.finish()), ([("fails", "p")], [("fails", "p")]))

    def test_deaf_and_out(self):
        for test, deed in self.TESTS:
            for mode in ("deaf", "out"):
                for ahead in [(), (deed,)]:
                    run = self.run_of(test, mode, *ahead)
                    self.assertEqual(run.finish(), [("say", "on")])
                    self.assertTrue(run.failed is None)

    def test_the_test_is_done_where_it_is_deaf(self):
        for mode, flag in [("out", True), ("deaf", False), ("on", False)]:
            run = self.run_of(("read", "l"), mode, ("lift", "l"))
            run.finish()
            self.assertEqual(run.world_so_far()["l"], flag)
        run = self.run_of(("watch", "l"), "on", ("lift", "l"))
        run.finish()
        self.assertEqual(run.world_so_far()["l"], True)

    def test_args_come_ahead_of_the_test(self):
        for mode, events in [("on", [("holds", "p"), ("say", "on")]), ("deaf", [("say", "on")])]:
            run = self.run_of(("has", "t", "a"), mode, args=(("get", "t", "a"), ("roll", "d")))
            self.assertEqual(run.finish(), events)
            self.assertEqual((run.world_so_far()["d"], run.world_so_far()["t"]), ((0, 1), (("a", 0),)))
        self.assertEqual(self.run_of(("read", "l"), "on", ("lift", "l"), args=(("read", "l"),)).finish(), [("fails", "p")])

    def test_gates(self):
        for gate, events in [
            ("always", ["holds", "holds", "holds"]), ("first", ["holds"]), ("later", ["holds", "holds"]), ("second", ["holds"]),
        ]:
            run = turns(("assert", "p", gate, (("get", "t", "a"),), ("has", "t", "a")), "on", 3)
            self.assertEqual([event for event in run.events_so_far() if event[0] != "ask"], [(word, "p") for word in events])

    def test_a_gate_that_keeps_it_from_acting(self):
        for gate, rows in [("always", 2), ("first", 2), ("later", 5), ("second", 5)]:
            run = turns(("assert", "p", gate, (), ("bound", "n")), "on", 4)
            self.assertEqual((run.failed, run.rows), ("p", rows))
        self.assertEqual(turns(("assert", "p", "later", (), ("bound", "n")), "on", 1).failed, None)
