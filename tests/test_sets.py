"""Sets of probes [25]."""

import itertools
import random
import unittest

from quietprobes.errors import BadMode, TooMany
from quietprobes.programs import Program
from quietprobes.sets import greatest_harmless, least_harmful, survey
from quietprobes.settings import Setting
from quietprobes.things import Thing
from quietprobes.verdicts import judge
from tests.samples import ODD_OBJECTS, same
from tests.wild_programs import Wild

GET, DROP, SIZE = ("get", "t", "a"), ("drop", "t", "a"), ("size", "t")
CALLS = (survey, least_harmful, greatest_harmless)


def probe(name, args=(), body=(), gate="always"):
    return "probe", name, gate, tuple(args), tuple(body)


def program_of(*rows):
    return Program([Thing.table("t", "a", "b"), Thing.slot("n"), Thing.flag("l")], ("main", rows))


def sets_of(names):
    """All sets in their order, told from the document."""
    found = [subset for many in range(len(names) + 1) for subset in itertools.combinations(sorted(names), many)]
    assert found == sorted(found, key=lambda names: (len(names), names))
    return found


class SetsTest(unittest.TestCase):
    def assert_sets(self, program, harmful, mode="on"):
        """All answers, from the list of the harmful sets."""
        wanted = {names: names not in harmful for names in sets_of(program.probes)}
        for more in [{"mode": mode}] + [{}] * (mode == "on"):
            found = survey(program, **more)
            self.assertIs(type(found), dict)
            self.assertTrue(same(list(found.items()), list(wanted.items())), (found, wanted))
            least = [names for names in harmful if not any(set(other) < set(names) for other in harmful)]
            found = least_harmful(program, **more)
            self.assertTrue(same(found, sorted(least, key=lambda names: (len(names), names))), found)
            harmless = [names for names in wanted if names not in harmful]
            greatest = [names for names in harmless if not any(set(names) < set(other) for other in harmless)]
            found = greatest_harmless(program, **more)
            self.assertTrue(same(found, sorted(greatest, key=lambda names: (len(names), names))), found)

    def test_the_example_of_the_document(self):
        count = ("probe", "count", "always", (("get", "seen", "a"),), ())
        clean = ("probe", "clean", "always", (("drop", "seen", "a"),), ())
        program = Program([Thing.table("seen", "a")], ("main", (count, clean, ("size", "seen"))))
        self.assertEqual(least_harmful(program), [("count",)])
        self.assertEqual(greatest_harmless(program), [("clean", "count")])
        self.assertEqual(list(survey(program).items()), [((), True), (("clean",), True), (("count",), False), (("clean", "count"), True)])

    def test_no_probes(self):
        for program in [program_of(SIZE), Program([], ("main", ()))]:
            for mode in ("on", "deaf"):
                self.assert_sets(program, [], mode)
                self.assertTrue(same(survey(program, mode=mode), {(): True}))
                self.assertTrue(same((least_harmful(program, mode=mode), greatest_harmless(program, mode=mode)), ([], [()])))

    def test_one_beside_another(self):
        program = program_of(probe("b", [GET]), probe("a", [DROP]), SIZE)
        self.assert_sets(program, [("b",)])
        self.assert_sets(program, [("b",)], "deaf")
        program = program_of(probe("b", [GET]), probe("a", [], [DROP]), SIZE)
        self.assert_sets(program, [("b",)])
        self.assert_sets(program, [("b",), ("a", "b")], "deaf")

    def test_three_probes(self):
        rows = [probe("y", [("get", "t", "a")]), probe("z", [("get", "t", "b")]), probe("x", [DROP]), ("peek", "t", "b")]
        self.assert_sets(program_of(*rows), [names for names in sets_of("xyz") if "z" in names])
        rows = [probe("y", [GET]), probe("z", [GET]), probe("x", [DROP]), SIZE]
        self.assert_sets(program_of(*rows), [("y",), ("z",), ("y", "z")])

    def test_harmful_together_only(self):
        # p keeps an old value in v, and q carries it on to w; each by itself does nothing that the program sees.
        things = [Thing.source("s"), Thing.field("v", "s"), Thing.field("w", "v")]
        rows = [probe("p", [("look", "v")]), ("change", "s"), probe("q", [("look", "w")]), ("renew", "v"), ("look", "w")]
        program = Program(things, ("main", rows))
        self.assert_sets(program, [("p", "q")])
        self.assertEqual((least_harmful(program), greatest_harmless(program)), ([("p", "q")], [("p",), ("q",)]))

    def test_least_and_greatest_sets_of_unlike_sizes(self):
        things = [Thing.source("s"), Thing.field("v", "s"), Thing.field("w", "v"), Thing.slot("n")]
        rows = [probe("p", [("look", "v")]), ("change", "s"), probe("q", [("look", "w")]), probe("r", [("look", "w")]), ("renew", "v"),
                ("look", "w"), probe("a", [("mark", "n")]), ("tell", "n")]
        program = Program(things, ("main", rows))
        harmful = [names for names in sets_of("apqr") if "a" in names or "p" in names and set(names) & {"q", "r"}]
        self.assert_sets(program, harmful)
        self.assertEqual((least_harmful(program), greatest_harmless(program)), ([("a",), ("p", "q"), ("p", "r")], [("p",), ("q", "r")]))

    def test_an_assert_that_stops_the_run(self):
        rows = [("load", "t"), probe("b", [DROP]), ("assert", "a", "always", (), ("has", "t", "a")), SIZE]
        self.assert_sets(program_of(*rows), [("b",)])
        self.assert_sets(program_of(*rows), [("b",), ("a", "b")], "deaf")

    def test_modes(self):
        rows = [probe("p", [], [GET]), probe("q", [("get", "t", "b")]), SIZE]
        self.assert_sets(program_of(*rows), [("p",), ("q",), ("p", "q")])
        self.assert_sets(program_of(*rows), [("q",), ("p", "q")], "deaf")

    def test_five_probes_in_the_order_of_sets(self):
        rows = [probe(name, [("mark", "n")] if name in "bd" else [("peek", "t", "a")]) for name in "ecbad"]
        program = program_of(*rows, ("tell", "n"))
        self.assert_sets(program, [names for names in sets_of("abcde") if "b" in names or "d" in names])
        self.assertEqual(len(survey(program)), 32)
        self.assertEqual(least_harmful(program), [("b",), ("d",)])
        self.assertEqual(greatest_harmless(program), [("a", "c", "e")])

    def test_names_of_unlike_lengths(self):
        rows = [probe(name, [("mark", "n")]) for name in ("b", "ab", "aa", "a")]
        self.assert_sets(program_of(*rows, ("keep", "n"), ("tell", "n")), [])
        self.assertEqual(list(survey(program_of(*rows)))[:6], [(), ("a",), ("aa",), ("ab",), ("b",), ("a", "aa")])

    def test_random_programs(self):
        many = 0
        for seed in range(150):
            chance = random.Random(seed)
            program = Wild(chance, most_things=2, most_rows=8, probes=3).program()
            for mode in ("on", "deaf"):
                harmful = []
                for names in sets_of(program.probes):
                    setting = Setting(*names) if mode == "on" else Setting(deaf=names)
                    if not judge(program, setting):
                        harmful.append(names)
                self.assert_sets(program, harmful, mode)
                many += len(harmful)
        self.assertGreater(many, 50)

    def test_new_answers_each_time(self):
        program = program_of(probe("p", [GET]), SIZE)
        for call in CALLS:
            found = call(program)
            kept = list(found)
            found.clear()
            self.assertEqual(list(call(program)), kept)


class RefusedTest(unittest.TestCase):
    MANY = program_of(*[probe(name) for name in "abcdef"])

    def test_bad_mode(self):
        for mode in [*ODD_OBJECTS, "out", "On", "ON", "deaf ", ("on",), ["deaf"]]:
            for call in CALLS:
                for program in (self.MANY, program_of(SIZE)):
                    with self.assertRaises(BadMode) as caught:
                        call(program, mode=mode, limit=1)
                    self.assertTrue(same(caught.exception.mode, mode))

    def test_more_than_five_probes(self):
        for call in CALLS:
            for more in [{}, {"mode": "deaf"}, {"limit": 1}]:
                with self.assertRaises(TooMany) as caught:
                    call(self.MANY, **more)
                self.assertEqual(caught.exception.limit, 5)
        rows = [("assert", name, "always", (), ("has", "t", "a")) for name in "abcdef"]
        for call in CALLS:
            self.assertRaises(TooMany, call, program_of(*rows))

    def test_the_limit(self):
        # The most pairs are reached where only q acts: p then drops what q has made.
        rows = [("if", "ask", "w"), probe("q", [("get", "t", "a")]), ("end",), probe("p", [DROP]), ("say", "a"), ("say", "b"), ("wipe", "t")]
        program = program_of(*rows)
        numbers = {names: len(judge(program, Setting(*names)).pairs) for names in sets_of("pq")}
        most = max(numbers.values())
        self.assertEqual([names for names in numbers if numbers[names] == most], [("q",)])
        for call in CALLS:
            call(program, limit=most)
            for limit in range(1, most):
                with self.assertRaises(TooMany) as caught:
                    call(program, limit=limit)
                self.assertEqual(caught.exception.limit, limit)
            # Deaf, it is the same; bodies do not act.
            call(program, mode="deaf", limit=most)
            self.assertRaises(TooMany, call, program, mode="deaf", limit=most - 1)

    def test_the_limit_counts_for_sets_in_their_mode(self):
        rows = [("if", "ask", "w"), probe("q", [], [("get", "t", "a")]), ("end",), ("say", "a"), ("say", "b")]
        program = program_of(*rows)
        deaf, on = len(judge(program, Setting(deaf=["q"])).pairs), len(judge(program, Setting("q")).pairs)
        self.assertLess(deaf, on)
        for call in CALLS:
            call(program, mode="deaf", limit=deaf)
            self.assertRaises(TooMany, call, program, limit=deaf)
            self.assertRaises(TooMany, call, program, mode="deaf", limit=deaf - 1)
