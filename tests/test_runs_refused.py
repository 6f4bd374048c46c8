"""Settings that do not fit a program, settings that change, and the texts of events [2, 16, 29]."""

import unittest

from quietprobes.contents import Contents
from quietprobes.errors import NoProbe, QuietError
from quietprobes.runs import Run, event_text, play, play_events
from quietprobes.settings import Setting
from tests.samples import same
from tests.samples_of_programs import mixed, program_of

NOTHING = Contents()


class NoProbeTest(unittest.TestCase):
    CALLS = [Run, play, lambda *given: list(play_events(*given)), lambda *given: next(play_events(*given))]

    def assert_refused(self, setting, name):
        for call in self.CALLS:
            with self.assertRaises(NoProbe) as caught:
                call(mixed(), NOTHING, setting)
            self.assertEqual(caught.exception.name, name)
            self.assertIsInstance(caught.exception, QuietError)

    def test_the_least_strange_name(self):
        self.assert_refused(Setting("b"), "b")
        self.assert_refused(Setting(deaf=["b"]), "b")
        self.assert_refused(Setting("zz", "b", "count"), "b")
        self.assert_refused(Setting("b", deaf=["aaaa"]), "aaaa")
        self.assert_refused(Setting("aaaa", deaf=["b", "hold"]), "aaaa")
        self.assert_refused(Setting("b", "ab"), "ab")
        self.assert_refused(Setting("ba", "b"), "b")
        self.assert_refused(Setting("cou", "counts", "count"), "cou")
        self.assert_refused(Setting("counts", "count"), "counts")
        # The names of things, keys and parts are none of probes.
        self.assert_refused(Setting("f"), "f")
        self.assert_refused(Setting("main", "sub"), "main")

    def test_names_that_are_out(self):
        setting = Setting("strange", "count")
        setting["strange"] = "out"
        self.assertEqual(play(mixed(), NOTHING, setting), [("take", "f", None)])

    def test_play_events_at_the_latest_with_the_first_event(self):
        setting = Setting("strange")
        try:
            events = play_events(mixed(), NOTHING, setting)
        except NoProbe:
            return
        self.assertRaises(NoProbe, next, events)

    def test_all_modes_fit(self):
        for setting in [None, Setting(), Setting("count", "hold", "last"), Setting(deaf=("count", "hold", "last"))]:
            self.assertEqual(play(mixed(), NOTHING, setting), [("take", "f", None)])


class ChangedSettingTest(unittest.TestCase):
    PROGRAM = program_of(("say", "a"), ("probe", "p", "always", (), (("get", "t", "a"),)), ("size", "t"))

    def test_behind_the_making_of_a_run(self):
        for steps in range(3):
            setting = Setting()
            run = Run(self.PROGRAM, NOTHING, setting)
            for _ in range(steps):
                run.step()
            setting["p"] = "on"
            setting["strange"] = "on"
            self.assertEqual(run.finish(), [("say", "a"), ("size", "t", 0)])

    def test_play_events_uses_it_as_it_is_with_the_first_event(self):
        setting = Setting()
        events = play_events(self.PROGRAM, NOTHING, setting)
        setting["p"] = "on"
        self.assertEqual(next(events), ("say", "a"))
        setting["p"] = "out"
        self.assertEqual(list(events), [("size", "t", 1)])

    def test_the_setting_stays(self):
        setting = Setting("p")
        play(self.PROGRAM, NOTHING, setting)
        self.assertEqual(setting, Setting("p"))

    def test_contents_stay(self):
        contents = Contents([True], [3], [["a"]])
        play(program_of(("fetch", "f"), ("load", "t"), ("if", "ask", "w"), ("end",)), contents)
        self.assertEqual(contents, Contents([True], [3], [["a"]]))


class EventTextTest(unittest.TestCase):
    def assert_text(self, event, text):
        self.assertTrue(same(event_text(event), text), (event, event_text(event)))

    def test_each_kind_of_part(self):
        self.assert_text(("say", "hi"), "say hi")
        self.assert_text(("stop",), "stop")
        self.assert_text(("holds", "p"), "holds p")
        self.assert_text(("fails", "p"), "fails p")
        self.assert_text(("size", "t", 0), "size t 0")
        self.assert_text(("size", "t", 4), "size t 4")
        self.assert_text(("get", "t", "a", 123), "get t a 123")
        self.assert_text(("ask", "more", True), "ask more yes")
        self.assert_text(("has", "t", "a", False), "has t a no")
        self.assert_text(("watch", "l", False), "watch l no")
        self.assert_text(("read", "l", True), "read l yes")
        self.assert_text(("peek", "t", "a", None), "peek t a -")
        self.assert_text(("take", "f", None), "take f -")
        self.assert_text(("take", "f", (1, 0)), "take f 1.0")
        self.assert_text(("take", "f", (12, 10 ** 30 - 1)), "take f 12." + "9" * 30)
        self.assert_text(("roll", "d", (0, 0)), "roll d 0.0")
        self.assert_text(("roll", "d", (3, 17)), "roll d 3.17")
        self.assert_text(("tell", "n", "mark"), "tell n mark")
        self.assert_text(("tell", "n", 7), "tell n 7")
        self.assert_text(("keys", "t", ()), "keys t .")
        self.assert_text(("keys", "t", ("a",)), "keys t a")
        self.assert_text(("keys", "t", ("b", "a", "long")), "keys t b+a+long")
        self.assert_text(("look", "v", 0), "look v 0")
        self.assert_text(("glance", "v", None), "glance v -")
        self.assert_text(("bound", "n", True), "bound n yes")

    def test_events_of_a_run(self):
        program = program_of(("fetch", "f"), ("take", "f"), ("roll", "d"), ("load", "t"), ("keys", "t"), ("wipe", "t"),
                             ("keys", "t"), ("get", "t", "a"), ("if", "take", "g"), ("end",))
        events = play(program, Contents((), [1], [["b", "a"]]))
        self.assertEqual([event_text(event) for event in events],
                         ["take f 1.0", "roll d 0.0", "keys t a+b", "keys t .", "get t a 0", "take g -"])
