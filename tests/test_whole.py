"""What the document promises over the whole program [2, 3]."""

import doctest
import itertools
import pathlib
import random
import unittest

from quietprobes.comparing import compare
from quietprobes.contents import Contents
from quietprobes.errors import QuietError, TooMany
from quietprobes.joint import first_pair, moves
from quietprobes.programs import Program
from quietprobes.runs import Run, play
from quietprobes.sets import greatest_harmless, least_harmful, survey
from quietprobes.settings import Setting
from quietprobes.tables import is_closed
from quietprobes.things import Thing
from quietprobes.turning import Turn, fewest_turns, stands
from quietprobes.verdicts import failing, judge, partings
from tests.test_limits import flags, passing
from tests.wild_programs import Wild, wild_contents, wild_settings

GET = ("get", "t", "a")
PROGRAM = Program(
    [Thing.table("t", "a"), Thing.slot("n")],
    ("main", [("probe", "p", "always", (GET,), ()), ("if", "ask", "w"), ("size", "t"), ("end",), ("assert", "q", "always", (), ("bound", "n")), ("say", "hi")]))
ON = Setting("p")

EXAMPLE = """
>>> from quietprobes.things import Thing
>>> from quietprobes.programs import Program
>>> from quietprobes.settings import Setting
>>> from quietprobes.verdicts import judge
>>> count = ("probe", "count", "always", (("get", "seen", "a"),), ())
>>> clean = ("probe", "clean", "always", (("drop", "seen", "a"),), ())
>>> program = Program([Thing.table("seen", "a")], ("main", (count, clean, ("size", "seen"))))
>>> judge(program, Setting("count")).is_harmless
False
>>> judge(program, Setting("count", "clean")).is_harmless
True
>>> judge(program, Setting("count")).parting.trail
[(0, 'seen')]
"""


def told(answer):
    """An answer as lists and tuples, that can be compared."""
    if isinstance(answer, (list, tuple)):
        return [told(part) for part in answer]
    if isinstance(answer, dict):
        return [told(part) for part in answer.items()]
    if hasattr(answer, "__dict__") and not isinstance(answer, Contents):
        return [told(part) for part in vars(answer).items()]
    return str(answer) if isinstance(answer, Contents) else answer


class ExampleTest(unittest.TestCase):
    def test_the_example_of_the_document(self):
        test = doctest.DocTestParser().get_doctest(EXAMPLE, {}, "example", None, 0)
        self.assertEqual(len(test.examples), 10)
        self.assertEqual(doctest.DocTestRunner(verbose=False).run(test).failed, 0)

    def test_what_is_said_of_it(self):
        count, clean = ("probe", "count", "always", (("get", "seen", "a"),), ()), ("probe", "clean", "always", (("drop", "seen", "a"),), ())
        program = Program([Thing.table("seen", "a")], ("main", (count, clean, ("size", "seen"))))
        self.assertEqual(compare(program, Contents(), Setting("count")).events, (("size", "seen", 0), ("size", "seen", 1)))
        self.assertEqual((least_harmful(program), greatest_harmless(program)), ([("count",)], [("clean", "count")]))

    def test_the_readme_names_each_module(self):
        root = pathlib.Path(__file__).resolve().parent.parent
        text = (root / "README.md").read_text()
        for path in (root / "quietprobes").glob("*.py"):
            if path.stem != "__init__":
                self.assertTrue(f"`quietprobes.{path.stem}`" in text or f"`{path.stem}`" in text, path.stem)


class BaseTest(unittest.TestCase):
    def test_left_out_none_and_all_out(self):
        out = Setting("p")
        out["p"] = "out"
        contents = Contents([True])
        pairs = judge(PROGRAM, ON).pairs
        for call in [
            lambda **base: compare(PROGRAM, contents, ON, **base), lambda **base: moves(PROGRAM, first_pair(PROGRAM), ON, **base),
            lambda **base: judge(PROGRAM, ON, **base), lambda **base: partings(PROGRAM, ON, **base),
            lambda **base: is_closed(PROGRAM, pairs, ON, **base),
        ]:
            wanted = told(call())
            for base in (None, Setting(), out, Setting() & ON, Setting.every(PROGRAM, mode="out")):
                self.assertEqual(told(call(base=base)), wanted)

    def test_another_base_gives_other_answers(self):
        self.assertIsNotNone(compare(PROGRAM, Contents([True]), ON))
        self.assertIsNone(compare(PROGRAM, Contents([True]), ON, base=ON))
        self.assertEqual((bool(judge(PROGRAM, ON)), bool(judge(PROGRAM, ON, base=ON))), (False, True))
        self.assertNotEqual(moves(PROGRAM, first_pair(PROGRAM), ON), moves(PROGRAM, first_pair(PROGRAM), ON, base=ON))


class LimitTest(unittest.TestCase):
    PROBE = ("probe", "p", "always", (), ())

    def questions(self, program):
        return [
            lambda **more: judge(program, ON, **more), lambda **more: partings(program, ON, **more), lambda **more: failing(program, ON, **more),
            lambda **more: survey(program, **more), lambda **more: least_harmful(program, **more), lambda **more: greatest_harmless(program, **more),
            lambda **more: survey(program, mode="deaf", **more), lambda **more: fewest_turns(program, ON, Turn("out"), **more),
            lambda **more: stands(program, "p", ON, **more),
        ]

    def test_left_out_it_is_a_thousand(self):
        for many, raises in [(998, False), (999, False), (1000, True)]:
            without = passing(many)
            program = Program([], ("main", [*without.parts[0][1], self.PROBE]), *without.parts[1:])
            for question in self.questions(program):
                for more in ({}, {"limit": 1000}):
                    if not raises:
                        question(**more)
                        continue
                    with self.assertRaises(TooMany) as caught:
                        question(**more)
                    self.assertEqual(caught.exception.limit, 1000)

    def test_far_more(self):
        rows = flags(7, self.PROBE)
        for question in self.questions(rows):
            for limit in (1, 100, 1000):
                with self.assertRaises(TooMany) as caught:
                    question(limit=limit)
                self.assertEqual(caught.exception.limit, limit)


class ChangeTest(unittest.TestCase):
    """No argument is changed, an answer does not change with them, and a refused call changes nothing."""

    def calls(self, program, setting, base):
        pairs = judge(program, setting, base=base).pairs
        return [
            lambda: Run(program, Contents([True]), setting), lambda: compare(program, Contents([True]), setting, base=base),
            lambda: judge(program, setting, base=base), lambda: partings(program, setting, base=base), lambda: failing(program, setting),
            lambda: is_closed(program, pairs, setting, base=base), lambda: moves(program, pairs[0], setting, base=base),
            lambda: fewest_turns(program, setting, Turn("lazy")), lambda: stands(program, "p", setting), lambda: survey(program),
        ]

    def test_settings_that_are_changed_behind_an_answer(self):
        count = len(self.calls(PROGRAM, Setting("p", "q"), Setting("q")))
        for at in range(count):
            setting, base = Setting("p", "q"), Setting("q")
            answer = self.calls(PROGRAM, setting, base)[at]()
            kept = told(answer)
            setting["p"], setting["strange"], base["q"], base["strange"] = "out", "on", "deaf", "deaf"
            self.assertEqual(told(answer), kept)

    def test_arguments_stay(self):
        setting, base = Setting("p", "q"), Setting("q")
        for call in self.calls(PROGRAM, setting, base):
            call()
            self.assertEqual((setting, base), (Setting("p", "q"), Setting("q")))

    def test_the_same_answer_each_time(self):
        setting, base = Setting("p", "q"), Setting("q")
        for call in self.calls(PROGRAM, setting, base)[1:]:
            self.assertEqual(told(call()), told(call()))

    def test_refused_calls_change_nothing(self):
        setting, strange = Setting("p"), Setting("p", "strange")
        text = str(PROGRAM)
        for refused, good in [
            (lambda: play(PROGRAM, Contents(), strange), lambda: play(PROGRAM, Contents(), setting)),
            (lambda: judge(PROGRAM, setting, limit=1), lambda: judge(PROGRAM, setting)),
            (lambda: judge(PROGRAM, Setting(), base=setting), lambda: judge(PROGRAM, setting, base=setting)),
            (lambda: moves(PROGRAM, ((9,), ()), setting), lambda: moves(PROGRAM, ((), ()), setting)),
            (lambda: survey(PROGRAM, mode="out"), lambda: survey(PROGRAM)), (lambda: Turn("on"), lambda: Turn("out")),
            (lambda: Turn("out")(PROGRAM, ["p", "x"]), lambda: Turn("out")(PROGRAM, ["p", "q"])),
            (lambda: stands(PROGRAM, "x", setting), lambda: stands(PROGRAM, "p", setting)),
            (lambda: fewest_turns(PROGRAM, strange, Turn("out")), lambda: fewest_turns(PROGRAM, setting, Turn("out"))),
        ]:
            wanted = told(good())
            self.assertRaises(QuietError, refused)
            self.assertEqual(told(good()), wanted)
            self.assertEqual((str(PROGRAM), setting, strange), (text, Setting("p"), Setting("p", "strange")))


class PromiseTest(unittest.TestCase):
    """The promise as a whole, over random programs."""

    def test_all_answers_belong_together(self):
        harmful = 0
        for seed in range(250):
            chance = random.Random(seed)
            program = Wild(chance, most_things=2, most_rows=8, probes=2).program()
            base, setting = wild_settings(chance, program)
            verdict = judge(program, setting, base=base)
            rows = partings(program, setting, base=base)
            harmful += not verdict
            self.assertIs(is_closed(program, verdict.pairs, setting, base=base), verdict.is_harmless)
            self.assertEqual(verdict.is_harmless, rows == [])
            self.assertEqual(verdict.rows, min([many for _, many, _ in rows], default=None))
            if verdict.is_harmless:
                for _ in range(10):
                    self.assertIsNone(compare(program, wild_contents(chance), setting, base=base))
            found = survey(program)
            self.assertEqual(found[tuple(setting.names())], judge(program, Setting(*setting.names())).is_harmless)
            for names in least_harmful(program):
                self.assertTrue(all(found[part] for part in itertools.combinations(names, len(names) - 1)))
            chosen, against = fewest_turns(program, setting, Turn("out"))
            self.assertEqual(chosen == (), judge(program, setting).is_harmless)
            self.assertIsNotNone(chosen)
            # Turned out, a probe does as little as one that is out.
            for names, contents in against:
                lesser = setting - Setting(*names)
                self.assertIsNotNone(compare(program, contents, lesser))
        self.assertGreater(harmful, 5)
