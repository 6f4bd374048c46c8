"""Runs: what each row does and reports, step by step [11, 12, 15, 16]."""

import unittest

from quietprobes.contents import Contents
from quietprobes.errors import Over
from quietprobes.programs import Program
from quietprobes.runs import Run, play, play_events
from quietprobes.settings import Setting
from quietprobes.things import Thing
from quietprobes.worlds import World
from tests.samples import same
from tests.samples_of_programs import program_of, things

MANY = Contents([True, False, True], [3, 10 ** 30, 2], [("b", "a"), ("strange", "b", "b")])


def started(*rows, contents=MANY, setting=None):
    return Run(program_of(*rows), contents, setting)


def passed(*rows, contents=MANY, setting=None):
    """The events of all rows of a run, None for a row without one."""
    run = started(*rows, contents=contents, setting=setting)
    events = []
    while not run.is_over:
        events.append(run.step())
    return events


class RowTest(unittest.TestCase):
    def assert_events(self, rows, events, **more):
        found = passed(*rows, **more)
        self.assertTrue(same(found, events), (rows, found, events))

    def test_feeds(self):
        self.assert_events(
            [("take", "f"), ("fetch", "f"), ("take", "f"), ("skip", "f"), ("bind", "g", "f"), ("take", "g"), ("take", "f")],
            [("take", "f", None), None, ("take", "f", (1, 0)), None, None, ("take", "g", (1, 2)), ("take", "f", None)])
        self.assert_events(
            [("fetch", "g"), ("drain", "g"), ("take", "g"), ("fetch", "g"), ("take", "g"), ("skip", "f")],
            [None, None, ("take", "g", None), None, ("take", "g", (2, 0)), None])

    def test_dice(self):
        self.assert_events([("roll", "d"), ("roll", "d"), ("seed", "d"), ("roll", "d")],
                           [("roll", "d", (0, 0)), ("roll", "d", (0, 1)), None, ("roll", "d", (1, 0))])

    def test_tables(self):
        self.assert_events(
            [("peek", "t", "a"), ("get", "t", "a"), ("put", "t", "b"), ("fill", "t", "a"), ("size", "t"), ("keys", "t"),
             ("drop", "t", "a"), ("fill", "t", "a"), ("get", "t", "a"), ("keys", "t"), ("wipe", "t"), ("size", "t"),
             ("keys", "t")],
            [("peek", "t", "a", None), ("get", "t", "a", 0), None, None, ("size", "t", 2), ("keys", "t", ("a", "b")),
             None, None, ("get", "t", "a", 3), ("keys", "t", ("b", "a")), None, ("size", "t", 0), ("keys", "t", ())])

    def test_loads(self):
        self.assert_events(
            [("load", "t"), ("keys", "t"), ("peek", "t", "b"), ("load", "t"), ("keys", "t"), ("peek", "t", "b"),
             ("load", "t"), ("keys", "t")],
            [None, ("keys", "t", ("a", "b")), ("peek", "t", "b", 2), None, ("keys", "t", ("b",)),
             ("peek", "t", "b", 3), None, ("keys", "t", ())])

    def test_sources_and_fields(self):
        self.assert_events(
            [("glance", "v"), ("look", "v"), ("change", "s"), ("look", "v"), ("renew", "v"), ("glance", "v"),
             ("look", "v"), ("glance", "v")],
            [("glance", "v", None), ("look", "v", 0), None, ("look", "v", 0), None, ("glance", "v", None),
             ("look", "v", 1), ("glance", "v", 1)])

    def test_flags(self):
        self.assert_events([("watch", "l"), ("lift", "l"), ("watch", "l"), ("read", "l"), ("read", "l")],
                           [("watch", "l", False), None, ("watch", "l", True), ("read", "l", True), ("read", "l", False)])

    def test_slots(self):
        self.assert_events([("tell", "n"), ("keep", "n"), ("tell", "n"), ("copy", "n", "n"), ("tell", "n")],
                           [("tell", "n", None), None, ("tell", "n", 1), None, ("tell", "n", 1)])

    def test_reports(self):
        self.assert_events([("say", "hi"), ("stop",), ("say", "no")], [("say", "hi"), ("stop",)])

    def test_tests_of_an_if(self):
        rows = [("if", "take", "f"), ("say", "yes"), ("else",), ("say", "no"), ("end",)]
        yes, no = [("say", "yes"), None], [("say", "no"), None]
        for test, ahead, answer in [
            (("ask", "w"), None, True), (("take", "f"), ("fetch", "f"), (1, 0)), (("has", "t", "a"), ("put", "t", "a"), True),
            (("read", "l"), ("lift", "l"), True), (("bound", "n"), ("keep", "n"), True),
        ]:
            rows[0] = ("if", *test)
            full = [ahead, *rows] if ahead else rows
            self.assert_events(full, [None] * (len(full) - 5) + [(*test, answer), *yes])
            other = None if test[0] == "take" else False
            self.assert_events(rows, [(*test, other), *no], contents=Contents())

    def test_if_without_else(self):
        rows = [("if", "ask", "w"), ("say", "yes"), ("end",), ("say", "on")]
        self.assert_events(rows, [("ask", "w", True), ("say", "yes"), None, ("say", "on")])
        self.assert_events(rows, [("ask", "w", False), ("say", "on")], contents=Contents([False, True]))

    def test_a_test_read_clears_the_flag(self):
        self.assert_events([("lift", "l"), ("if", "read", "l"), ("end",), ("watch", "l")],
                           [None, ("read", "l", True), None, ("watch", "l", False)])

    def test_while_ask(self):
        rows = [("while", "ask", "w"), ("say", "in"), ("end",), ("say", "out")]
        turn = [("ask", "w", True), ("say", "in"), None]
        self.assert_events(rows, [*turn, ("ask", "w", False), ("say", "out")])
        self.assert_events(rows, [*turn, *turn, ("ask", "w", False), ("say", "out")], contents=Contents([True, True]))

    def test_while_take(self):
        rows = [("fetch", "f"), ("while", "take", "f"), ("end",), ("take", "f")]
        self.assert_events(rows, [
            None, ("take", "f", (1, 0)), None, ("take", "f", (1, 1)), None, ("take", "f", (1, 2)), None,
            ("take", "f", None), ("take", "f", None)])

    def test_what_runs_out(self):
        self.assert_events(
            [("if", "ask", "w"), ("end",), ("if", "ask", "x"), ("end",), ("if", "ask", "y"), ("end",), ("if", "ask", "z"), ("end",)],
            [("ask", "w", True), None, ("ask", "x", False), ("ask", "y", True), None, ("ask", "z", False)])
        self.assert_events([("fetch", "f"), ("take", "f")], [None, ("take", "f", None)], contents=Contents([True], [], []))
        self.assert_events([("fetch", "f"), ("fetch", "g"), ("take", "g")], [None, None, ("take", "g", None)],
                           contents=Contents(lengths=[5]))
        self.assert_events([("put", "t", "a"), ("load", "t"), ("size", "t")], [None, None, ("size", "t", 0)],
                           contents=Contents([True], [5], []))

    def test_a_row_of_very_many_items(self):
        self.assert_events([("fetch", "f"), ("fetch", "f"), ("take", "f"), ("bind", "g", "f"), ("drain", "f"), ("take", "g")],
                           [None, None, ("take", "f", (2, 0)), None, None, ("take", "g", None)])
        run = started(("fetch", "f"), ("fetch", "f"), ("skip", "f"), ("drain", "f"))
        run.step(), run.step(), run.step()
        self.assertEqual(run.world_so_far()["f"], (2, 1, 10 ** 30))
        run.step()
        self.assertEqual(run.world_so_far()["f"], (2, 10 ** 30, 10 ** 30))


class CallTest(unittest.TestCase):
    def places(self, program, contents=MANY):
        run = Run(program, contents)
        places = [run.place]
        while not run.is_over:
            run.step()
            places.append(run.place)
        return places, run

    def test_calls(self):
        program = Program(things(), ("main", [("call", "sub"), ("say", "back"), ("call", "none"), ("call", "sub")]),
                          ("sub", [("say", "one"), ("call", "deep")]), ("deep", [("say", "two")]), ("none", ()))
        places, run = self.places(program)
        self.assertEqual(places, [(0,), (0, 4), (0, 5), (0, 5, 6), (1,), (2,), (3,), (3, 4), (3, 5), (3, 5, 6), ()])
        self.assertEqual(run.rows, 10)
        self.assertEqual(run.events_so_far(), [("say", word) for word in ("one", "two", "back", "one", "two")])

    def test_stop_within_a_call(self):
        program = Program(things(), ("main", [("call", "sub"), ("say", "back")]), ("sub", [("stop",), ("say", "no")]))
        places, run = self.places(program)
        self.assertEqual(places, [(0,), (0, 2), ()])
        self.assertEqual((run.rows, run.events_so_far(), run.failed), (2, [("stop",)], None))

    def test_a_failing_assert_within_a_call(self):
        program = Program(things(), ("main", [("call", "sub"), ("say", "back")]),
                          ("sub", [("assert", "p", "always", (), ("bound", "n")), ("say", "no")]))
        run = Run(program, MANY, Setting("p"))
        self.assertEqual(run.finish(), [("fails", "p")])
        self.assertEqual((run.place, run.rows, run.failed), ((), 2, "p"))

    def test_a_loop_around_a_call(self):
        program = Program(things(), ("main", [("while", "ask", "w"), ("call", "sub"), ("end",)]),
                          ("sub", [("if", "ask", "x"), ("keep", "n"), ("end",)]))
        places, run = self.places(program, Contents([True, True, True, False, False]))
        self.assertEqual(places, [(0,), (1,), (1, 3), (1, 4), (1, 5), (2,), (0,), (1,), (1, 3), (2,), (0,), ()])
        self.assertEqual(run.world_so_far()["n"], 1)

    def test_a_first_part_without_rows(self):
        for parts in [[("main", ())], [("main", ()), ("sub", [("say", "hi")])]]:
            run = Run(Program(things(), *parts), MANY)
            self.assertTrue(run.is_over is True and same((run.place, run.rows, run.failed), ((), 0, None)))
            self.assertEqual((run.events_so_far(), run.finish()), ([], []))
            self.assertRaises(Over, run.step)


class RunTest(unittest.TestCase):
    ROWS = [("fetch", "f"), ("while", "take", "f"), ("probe", "p", "always", (("get", "t", "a"),), ()), ("end",), ("size", "t")]

    def test_behind_each_step(self):
        run = started(*self.ROWS, contents=Contents(lengths=[1]), setting=Setting("p"))
        world = World(*things())
        self.assertTrue(same((run.place, run.rows, run.failed, run.is_over), ((0,), 0, None, False)))
        self.assertTrue(run.events_so_far() == [] and run.world_so_far() == world)
        events = []
        for place, event, deed in [
            ((1,), None, ("fetch", "f", 1)), ((2,), ("take", "f", (1, 0)), ("take", "f")), ((3,), None, ("get", "t", "a")),
            ((1,), None, ("spy", "f")), ((4,), ("take", "f", None), ("take", "f")), ((), ("size", "t", 1), ("spy", "f")),
        ]:
            found = run.step()
            world.do(deed)
            events += [event] if event else []
            self.assertTrue(same(found, event), (found, event))
            self.assertTrue(same(run.place, place), run.place)
            self.assertTrue(same(run.events_so_far(), events))
            self.assertTrue(run.world_so_far() == world and not run.world_so_far().is_watched)
            self.assertEqual((run.is_over, run.failed), (place == (), None))
        self.assertTrue(same(run.rows, 6))

    def test_attributes(self):
        program = program_of(*self.ROWS)
        run = Run(program, MANY)
        self.assertTrue(run.program is program)

    def test_over(self):
        run = started(("keep", "n"), ("stop",))
        run.finish()
        world = run.world_so_far()
        for _ in range(3):
            with self.assertRaises(Over):
                run.step()
            self.assertEqual((run.rows, run.place, run.is_over), (2, (), True))
            self.assertTrue(run.events_so_far() == [("stop",)] and run.world_so_far() == world)
        self.assertEqual(run.finish(), [("stop",)])

    def test_finish_from_any_row_on(self):
        events = passed(*self.ROWS, setting=Setting("p"))
        whole = [event for event in events if event]
        for many in range(len(events) + 1):
            run = started(*self.ROWS, setting=Setting("p"))
            self.assertEqual([run.step() for _ in range(many)], events[:many])
            self.assertTrue(same(run.finish(), whole))
            self.assertEqual((run.is_over, run.rows), (True, len(events)))

    def test_what_was_returned_is_the_callers(self):
        run = started(*self.ROWS, setting=Setting("p"))
        run.step(), run.step(), run.step()
        run.events_so_far().append("more")
        world = run.world_so_far()
        world.do(("drop", "t", "a"))
        world.do(("fetch", "f", 100))
        self.assertTrue(run.world_so_far() != world)
        events = run.finish()
        self.assertEqual(events, [("take", "f", (1, at)) for at in range(3)] + [("take", "f", None), ("size", "t", 1)])
        events.clear()
        self.assertEqual(len(run.events_so_far()), 5)
        self.assertEqual(len(run.finish()), 5)

    def test_a_world_told_early_stays(self):
        run = started(("keep", "n"), ("keep", "n"))
        world = run.world_so_far()
        run.finish()
        self.assertTrue(world == World(*things()) and world["n"] is None)

    def test_two_runs_do_not_meet(self):
        program = program_of(*self.ROWS)
        one, two = Run(program, MANY), Run(program, MANY)
        one.finish()
        self.assertEqual((two.rows, two.events_so_far()), (0, []))
        self.assertEqual(two.finish(), one.events_so_far())


class PlayTest(unittest.TestCase):
    def test_play(self):
        program = program_of(*RunTest.ROWS)
        for setting in [None, Setting(), Setting("p"), Setting(deaf=["p"])]:
            events = Run(program, MANY, setting).finish()
            self.assertTrue(same(play(program, MANY, setting), events))
            self.assertTrue(same(list(play_events(program, MANY, setting)), events))
        self.assertTrue(same(play(program, MANY), play(program, MANY, Setting())))
        self.assertTrue(same(list(play_events(program, MANY)), play(program, MANY, Setting())))
        self.assertEqual(play(program, MANY)[-1], ("size", "t", 0))
        self.assertEqual(play(program, MANY, Setting("p"))[-1], ("size", "t", 1))

    def test_play_events_comes_one_after_another(self):
        events = play_events(program_of(("say", "a"), ("keep", "n"), ("say", "b")), Contents())
        self.assertEqual(iter(events), events)
        self.assertEqual((next(events), next(events), next(events, None)), (("say", "a"), ("say", "b"), None))

    def test_many_thousand_rows(self):
        program = program_of(("fetch", "f"), ("while", "take", "f"), ("roll", "d"), ("say", "hi"), ("end",))
        contents = Contents(lengths=[20000])
        wanted = []
        for at in range(20000):
            wanted += [("take", "f", (1, at)), ("roll", "d", (0, at)), ("say", "hi")]
        wanted.append(("take", "f", None))
        self.assertEqual(play(program, contents), wanted)
        self.assertEqual(list(play_events(program, contents)), wanted)
        run = Run(program, contents)
        self.assertEqual((run.finish(), run.rows), (wanted, 80002))

    def test_nothing(self):
        program = Program([Thing.slot("n")], ("main", ()))
        self.assertEqual((play(program, Contents()), list(play_events(program, Contents()))), ([], []))
