"""The desk and its commands [29]."""

import unittest

from quietprobes.comparing import compare
from quietprobes.contents import Contents
from quietprobes.desk import Desk
from quietprobes.errors import (
    BadCommand, BadRow, BadText, NoKey, NoPart, NoProbe, NoThing, NotNested, QuietError, TooMany, Twice, Unmatched,
)
from quietprobes.programs import Program
from quietprobes.runs import event_text, play
from quietprobes.settings import Setting
from quietprobes.things import Thing
from quietprobes.verdicts import judge
from tests.samples import ODD_OBJECTS, same
from tests.samples_of_programs import mixed
from tests.test_limits import flags

SEEN = "program table seen a ; part main ; probe count always get seen a / ; probe clean always drop seen a / ; size seen"
ASKS = ["run", "compare", "judge", "failing", "least on", "least deaf", "greatest on", "greatest deaf", "turns quiet", "turns lazy", "turns out",
        "chart"]


def put(program):
    """The command that puts a program."""
    return "program " + str(program).replace("\n", " ; ")


def answers(desk):
    """All that a desk tells of itself."""
    found = []
    for command in ASKS:
        try:
            found.append(desk.say(command))
        except QuietError as error:
            found.append((type(error), vars(error)))
    return found


class DeskTest(unittest.TestCase):
    def assert_says(self, desk, *pairs):
        for command, answer in pairs:
            found = desk.say(command)
            self.assertTrue(same(found, answer), (command, found, answer))

    def test_a_new_desk(self):
        self.assert_says(
            Desk(), ("run", "nothing"), ("compare", "same"), ("judge", "harmless 1"), ("failing", "none"), ("least on", "none"),
            ("least deaf", "none"), ("greatest on", "."), ("greatest deaf", "."), ("turns quiet", "."), ("turns lazy", "."), ("turns out", "."),
            ("chart", ""), ("contents - / - / -", "ok"), ("run", "nothing"))

    def test_the_example_of_the_document(self):
        self.assert_says(
            Desk(), (SEEN, "ok 3"), ("run", "size seen 0"), ("compare", "same"), ("judge", "harmless 4"), ("mode count on", "ok"),
            ("run", "size seen 1"), ("compare", "part 2 seen 3"), ("judge", "harmful 3"), ("least on", "count"), ("least deaf", "count"),
            ("greatest on", "clean+count"), ("greatest deaf", "clean+count"), ("turns quiet", "count"), ("turns lazy", "none"),
            ("turns out", "count"), ("base count deaf", "ok"), ("judge", "harmless 4"), ("compare", "same"), ("mode clean on", "ok"),
            ("base count out", "ok"), ("judge", "harmless 4"), ("run", "size seen 0"), ("turns lazy", "."),
            ("chart", "count      on   0\nclean      on   1"))

    def test_program(self):
        desk = Desk()
        self.assert_says(desk, ("program part main", "ok 0"), ("program part main ; say hi ; stop", "ok 2"), ("run", "say hi; stop"))
        self.assert_says(desk, ("program feed f ; part main ; take f ; part sub ; say hi", "ok 2"), ("run", "take f -"))
        self.assert_says(desk, (put(mixed()), f"ok {len(mixed())}"), ("run", event_text(play(mixed(), Contents())[0])))

    def test_a_program_empties_setting_and_base_and_keeps_contents(self):
        desk = Desk()
        self.assert_says(desk, ("contents yes / 3 / a", "ok"), (SEEN, "ok 3"), ("mode count on", "ok"), ("base clean deaf", "ok"),
                         (SEEN, "ok 3"), ("chart", "count     out   0\nclean     out   1"), ("run", "size seen 0"), ("compare", "same"),
                         ("mode count on", "ok"), ("judge", "harmful 3"),
                         ("program feed f ; table t a ; part main ; fetch f ; take f ; load t ; size t ; if ask w ; end", "ok 6"),
                         ("run", "take f 1.0; size t 1; ask w yes"))

    def test_the_same_program_put_again_keeps_nothing_of_the_base(self):
        desk = Desk()
        desk.run([SEEN, "mode count on", "base count on", SEEN, "mode count on"])
        self.assert_says(desk, ("compare", "part 2 seen 3"))

    def test_mode_and_base(self):
        desk = Desk()
        self.assert_says(desk, (SEEN, "ok 3"))
        for mode, column in [("on", " on"), ("deaf", "deaf"), ("out", "out"), ("on", "on"), ("on", "on")]:
            self.assert_says(desk, (f"mode clean {mode}", "ok"), ("chart", f"count     out   0\nclean    {column:>4}   1"))
        # The chart tells the setting, not the base.
        self.assert_says(desk, ("base clean deaf", "ok"), ("chart", "count     out   0\nclean      on   1"), ("compare", "same"))

    def test_contents(self):
        desk = Desk()
        text = "program feed f ; table t a b ; part main ; fetch f ; drain f ; load t ; keys t ; load t ; keys t ; while ask w ; end"
        self.assert_says(desk, (text, "ok 8"), ("run", "keys t .; keys t .; ask w no"))
        self.assert_says(desk, ("contents yes no / 0 / b+a .", "ok"), ("run", "keys t a+b; keys t .; ask w yes; ask w no"))
        self.assert_says(desk, ("contents - / 1" + "0" * 30 + " / b", "ok"), ("run", "keys t b; keys t .; ask w no"))
        self.assert_says(desk, ("contents - / - / -", "ok"), ("run", "keys t .; keys t .; ask w no"))

    def test_run(self):
        desk = Desk()
        text = ("program feed f ; dice d ; slot n ; flag l ; part main ; fetch f ; take f ; roll d ; probe p always / mark n ; tell n ; "
                "assert q always / bound n ; watch l ; say hi")
        self.assert_says(desk, (text, "ok 8"), ("contents - / 1 / -", "ok"), ("run", "take f 1.0; roll d 0.0; tell n -; watch l no; say hi"))
        self.assert_says(desk, ("mode q on", "ok"), ("run", "take f 1.0; roll d 0.0; tell n -; fails q"))
        self.assert_says(desk, ("mode p on", "ok"), ("run", "take f 1.0; roll d 0.0; tell n p; holds q; watch l no; say hi"))
        self.assert_says(desk, ("mode p deaf", "ok"), ("run", "take f 1.0; roll d 0.0; tell n -; fails q"))
        self.assert_says(desk, ("program feed f ; part main ; fetch f", "ok 1"), ("run", "nothing"))

    def test_compare(self):
        desk = Desk()
        text = "program feed first ; part main ; fetch first ; say hi ; probe p always take first / ; while take first ; end"
        self.assert_says(desk, (text, "ok 5"), ("mode p on", "ok"), ("compare", "same"), ("contents - / 2 / -", "ok"),
                         ("compare", "part 3 first 4"), ("base p deaf", "ok"), ("compare", "same"), ("base p out", "ok"),
                         ("compare", "part 3 first 4"), ("judge", "harmful 4"), ("mode p out", "ok"), ("compare", "same"))

    def test_judge(self):
        desk = Desk()
        for program, setting, base in [(mixed(), Setting("count", "hold", "last"), Setting()), (mixed(), Setting("count", "hold"), Setting("hold"))]:
            verdict = judge(program, setting, base=base)
            desk.say(put(program))
            for name in setting.names():
                desk.say(f"mode {name} on")
            for name in base.names():
                desk.say(f"base {name} on")
            self.assert_says(desk, ("judge", f"harmless {len(verdict.pairs)}" if verdict else f"harmful {verdict.rows}"))

    def test_failing(self):
        desk = Desk()
        text = ("program slot n ; part main ; if ask w ; assert z always / bound n ; else ; if ask x ; assert a always / bound n ; else ; "
                "keep n ; assert m always / bound n ; end ; end")
        self.assert_says(desk, (text, "ok 10"), ("failing", "none"), ("mode a on", "ok"), ("failing", "a"), ("mode z on", "ok"), ("mode m on", "ok"),
                         ("failing", "z a"), ("mode z deaf", "ok"), ("failing", "a"))

    def test_least_and_greatest(self):
        desk = Desk()
        text = "program table t a ; slot n ; part main ; probe y always get t a / ; probe x always / mark n ; probe w always drop t a / ; size t ; tell n"
        self.assert_says(desk, (text, "ok 5"), ("least on", "x y"), ("greatest on", "w+y"), ("least deaf", "y"), ("greatest deaf", "w+x+y"))
        text = "program table t a b ; part main ; probe q always get t a / ; probe p always get t b / ; size t"
        self.assert_says(desk, (text, "ok 3"), ("least on", "p q"), ("greatest on", "."), ("greatest deaf", "."))
        text = "program table t a b ; part main ; probe q always get t a / ; probe p always has t b / ; say hi"
        self.assert_says(desk, (text, "ok 3"), ("least on", "none"), ("greatest on", "p+q"))
        # The setting and the base do not matter.
        self.assert_says(desk, ("mode p on", "ok"), ("base q on", "ok"), ("least on", "none"), ("greatest on", "p+q"))

    def test_two_greatest_sets(self):
        text = ("program source s ; field v s ; field w v ; part main ; probe p always look v / ; change s ; probe q always look w / ; renew v ; look w")
        self.assert_says(Desk(), (text, "ok 5"), ("least on", "p+q"), ("greatest on", "p q"))

    def test_turns(self):
        desk = Desk()
        text = "program table t a ; slot n ; part main ; probe y always get t a / ; probe x always / mark n ; size t ; tell n"
        self.assert_says(desk, (text, "ok 4"), ("turns quiet", "."), ("mode y on", "ok"), ("turns quiet", "y"), ("turns lazy", "none"),
                         ("mode y deaf", "ok"), ("turns lazy", "y"), ("mode x on", "ok"), ("turns out", "x+y"), ("turns lazy", "none"),
                         ("base x on", "ok"), ("turns out", "x+y"))

    def test_chart(self):
        rows = [("say", "hi")] * 9 + [("probe", "abcdefgh", "always", (), ()), ("say", "hi"), ("probe", "z", "first", (), ())] + [("say", "hi")] * 40
        rows += [("assert", "mid", "always", (), ("bound", "n"))]
        desk = Desk()
        self.assert_says(desk, (put(Program([Thing.slot("n")], ("main", rows))), "ok 53"), ("mode abcdefgh deaf", "ok"), ("mode mid on", "ok"),
                         ("chart", "abcdefgh deaf   9\nz         out  11\nmid        on  52"))
        self.assert_says(desk, ("program part main ; say hi", "ok 1"), ("chart", ""))

    def test_two_desks_do_not_meet(self):
        one, two = Desk(), Desk()
        one.run([SEEN, "mode count on", "contents yes / - / -"])
        self.assertEqual(answers(two), answers(Desk()))
        two.run([SEEN])
        self.assert_says(two, ("chart", "count     out   0\nclean     out   1"))
        self.assert_says(one, ("chart", "count      on   0\nclean     out   1"))

    def test_the_functions_say_the_same(self):
        desk = Desk()
        desk.run([SEEN, "mode count on", "contents yes no / 7 / a"])
        program = Program.read(SEEN[8:].replace(" ; ", "\n"))
        parting = compare(program, Contents([True, False], [7], [["a"]]), Setting("count"))
        self.assert_says(desk, ("compare", f"part {parting.row} {parting.thing} {parting.rows}"))


class RefusedTest(unittest.TestCase):
    def desk(self):
        desk = Desk()
        desk.run([SEEN, "mode count on", "base clean deaf", "mode clean on", "contents yes / 3 / a"])
        return desk

    def assert_refused(self, error, command, desk=None):
        desk = desk or self.desk()
        before = answers(desk)
        with self.assertRaises(type(error)) as caught:
            desk.say(command)
        self.assertEqual(type(caught.exception), type(error), command)
        self.assertTrue(same(tuple(vars(caught.exception).items()), tuple(vars(error).items())), (command, vars(caught.exception)))
        self.assertEqual(answers(desk), before)
        self.assertEqual(desk.run(["mode count deaf", "chart"]), ["ok", "count    deaf   0\nclean      on   1"])

    def test_bad_commands(self):
        good = [*ASKS, "mode count on", "base count deaf", SEEN, "contents - / - / -"]
        self.assertEqual(len(self.desk().run(good)), len(good))
        bad = [thing for thing in ODD_OBJECTS]
        for command in [*ASKS, "mode count on", "base count deaf"]:
            bad += [command + " ", " " + command, command + "\n", "\n" + command, command.upper(), command.capitalize(), command + " on",
                    command.replace(" ", "  ", 1) if " " in command else command + "  ", command.replace(" ", "\n", 1) + "~", command[:-1], command + "s",
                    [command], (command,)]
        bad += ["", " ", "say hi", "program", "program ", "contents", "contents ", "programs x", "Program part main", " program part main",
                "program\npart main", "mode", "mode count", "mode count on on", "mode count On", "mode on count", "mode count  on", "mode Count on",
                "mode countcoun on", "mode c1 on", "mode  on", "mode count ", "mode count\n on", "base", "base count", "base count both", "least", "least out",
                "least On", "least on deaf", "greatest", "greatest out", "greatest  on", "turns", "turns on", "turns quiet lazy", "turns Quiet", "turn quiet",
                "run now", "compare count", "judge 10", "failing on", "chart count", "chart\tcount", "least deaf ", "judge\n", "run;", "none"]
        for command in bad:
            self.assert_refused(BadCommand(command), command)

    def test_bad_texts_of_programs(self):
        for text, line in [
            (" ", 0), ("  ", 0), (" part main", 0), ("part main ", 0), ("part  main", 0), ("part main;say hi", 0), ("part main ;say hi", 0),
            ("part main ; say", 1), ("part main ; say hi ", 1), ("part main ;  say hi", 1), ("part main ; say hi ;", 1), ("part main ; say hi ; ", 2),
            ("part main ; ; say hi", 1), ("part main ;  ; say hi", 1), (" ; part main", 0), ("part main ; feed f", 1), ("feed f ; feeds g ; part main", 1),
            ("part main\nsay hi", 0), ("feed f ; part main\nsay hi ; say", 1), ("feed f ; part main ; say hi\n", 2), ("\npart main", 0),
            ("part main ; say hi ; say\nhi", 2), ("part main ; say ; say\nhi", 1), ("part main\n ; say", 0), ("part main ;\nsay hi", 0), ("part main \n; say hi", 0),
            ("table t a a ; part main", 0), ("table t a b c d e ; part main", 0), ("part main ; probe p always", 1), ("part Main", 0), ("x", 0), ("~", 0),
            ("feed f ; part main ; take f ; take ~ ; say", 3), ("say hi", 0),
        ]:
            self.assert_refused(BadText(line), "program " + text)

    def test_bad_texts_of_contents(self):
        for text in [" ", "-", "- / -", "- / - / - / -", " - / - / -", "- / - / - ", "-  / - / -", "- / - / -\n", "-\n/ - / -", "Yes / - / -", "yes  no / - / -",
                     "- / 03 / -", "- / -1 / -", "- / 3.0 / -", "- / - / a++b", "- / - / A", "- / 1" + "0" * 29 + "1 / -", "- / 1" + "0" * 31 + " / -",
                     "yes / 3 / a b+", "- / - / .+a", "~", "none"]:
            self.assert_refused(BadText(0), "contents " + text)

    def test_errors_of_programs(self):
        for text, error in [
            ("feed f", NoPart(None)), ("feed f ; feed f ; part main", Twice("f")), ("field v s ; part main", NoThing("s")),
            ("part main ; take f", NoThing("f")), ("table t a ; part main ; get t b", NoKey("b")), ("part main ; call sub", NoPart("sub")),
            ("part main ; end", Unmatched(0)), ("part main ; say hi ; if ask w", Unmatched(1)), ("part main ; part main", Twice("main")),
            ("part main ; probe p always / ; probe p always /", Twice("p")), (" ; ".join(f"feed {name}" for name in "abcdefghi") + " ; part main", TooMany(8)),
            ("part a ; part b ; part c ; part d ; part e ; part f", TooMany(5)), ("part main" + " ; say hi" * 61, TooMany(60)),
            ("feed f ; part main ; probe p always take f , take f , take f / take f , take f , take f , take f", BadText(2)),
        ]:
            self.assert_refused(error, "program " + text)
        self.assertTrue(issubclass(BadRow, QuietError))

    def test_no_probe(self):
        for word in ("mode", "base"):
            for mode in ("on", "deaf", "out"):
                for name in ("strange", "seen", "a", "main", "counts"):
                    self.assert_refused(NoProbe(name), f"{word} {name} {mode}")
        with self.assertRaises(NoProbe) as caught:
            Desk().say("mode p on")
        self.assertEqual(caught.exception.name, "p")
        # The words are looked at first.
        self.assert_refused(BadCommand("mode strange up"), "mode strange up")

    def test_not_nested(self):
        for command in ("compare", "judge"):
            desk = self.desk()
            desk.run(["base clean on", "mode clean deaf", "base count on", "mode count on"])
            with self.assertRaises(NotNested) as caught:
                desk.say(command)
            self.assertEqual(caught.exception.name, "clean")
            desk.run(["mode count out"])
            self.assertRaises(NotNested, desk.say, command)
            # The others do not ask for the base.
            self.assertEqual(desk.run(["run", "failing", "least on", "turns out", "mode clean on", "mode count on", command]),
                             ["size seen 0", "none", "count", ".", "ok", "ok", "same" if command == "compare" else "harmless 4"])

    def test_too_many(self):
        desk = Desk()
        desk.say(put(flags(7)))
        for command in ("judge", "failing", "least on", "greatest deaf", "turns out"):
            with self.assertRaises(TooMany) as caught:
                desk.say(command)
            self.assertEqual(caught.exception.limit, 1000)
        self.assertEqual(desk.run(["run", "compare", "chart"]), ["ask w no", "same", ""])
        rows = [("probe", name, "always", (), ()) for name in "abcdef"]
        desk.say(put(Program([], ("main", rows))))
        for command in ("least on", "greatest on"):
            with self.assertRaises(TooMany) as caught:
                desk.say(command)
            self.assertEqual(caught.exception.limit, 5)
        self.assertEqual(desk.say("turns out"), ".")
        desk.run([f"mode {name} on" for name in "abcdef"])
        with self.assertRaises(TooMany) as caught:
            desk.say("turns out")
        self.assertEqual(caught.exception.limit, 5)


class RunTest(unittest.TestCase):
    COMMANDS = ["program table t a ; part main ; probe p always get t a / ; size t ; if ask w ; end", "mode p on", "base p deaf", "contents yes / 1 / a"]

    def test_lists_and_tuples(self):
        for commands in [[SEEN, "mode count on", "run", "chart"], (SEEN, "mode count on", "run", "chart")]:
            found = Desk().run(commands)
            self.assertTrue(same(found, ["ok 3", "ok", "size seen 1", "count      on   0\nclean     out   1"]), found)

    def test_no_commands(self):
        desk = Desk()
        self.assertTrue(same(desk.run([]), []))
        self.assertTrue(same(desk.run(()), []))
        self.assertEqual(answers(desk), answers(Desk()))

    def test_an_error_at_any_place(self):
        for bad, error in [("mode q on", NoProbe), ("mode p up", BadCommand), ("program x", BadText), ("contents x", BadText), (None, BadCommand),
                           ("program part main ; end", Unmatched), (7, BadCommand)]:
            for at in range(len(self.COMMANDS) + 1):
                for kind in (list, tuple):
                    desk = Desk()
                    desk.run([SEEN, "mode count on", "base clean deaf", "mode clean deaf", "contents no yes / 5 / -"])
                    before = answers(desk)
                    with self.assertRaises(error) as caught:
                        desk.run(kind([*self.COMMANDS[:at], bad, *self.COMMANDS[at:]]))
                    self.assertIsInstance(caught.exception, QuietError)
                    self.assertEqual(answers(desk), before)
                    # Also the contents are as they were before.
                    self.assertEqual(desk.run(["program part main ; if ask w ; end ; if ask w ; end ; if ask w ; end", "run"])[1], "ask w no; ask w yes; ask w no")

    def test_the_first_error_goes_on(self):
        desk = Desk()
        with self.assertRaises(NoProbe) as caught:
            desk.run([SEEN, "mode a on", "mode b on", None])
        self.assertEqual(caught.exception.name, "a")
        self.assertEqual(answers(desk), answers(Desk()))

    def test_an_error_that_another_command_makes(self):
        desk = Desk()
        self.assertRaises(NotNested, desk.run, [SEEN, "base count on", "mode clean on", "compare"])
        self.assertEqual(answers(desk), answers(Desk()))
        desk.run([SEEN, "mode count on"])
        self.assertRaises(NotNested, desk.run, ["base count on", "mode count out", "judge", "mode count on"])
        self.assertEqual(desk.run(["chart", "compare"]), ["count      on   0\nclean     out   1", "part 2 seen 3"])

    def test_a_run_behind_an_error_is_done(self):
        desk = Desk()
        self.assertRaises(BadCommand, desk.run, [SEEN, ""])
        self.assertEqual(desk.run([SEEN, "mode count on", "judge"]), ["ok 3", "ok", "harmful 3"])
        self.assertEqual(desk.say("compare"), "part 2 seen 3")
