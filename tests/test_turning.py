"""Turns, the fewest turns, and where a probe can stand [26, 27, 28]."""

import itertools
import random
import unittest

from quietprobes.comparing import compare
from quietprobes.contents import Contents
from quietprobes.errors import BadTurn, NoProbe, TooMany
from quietprobes.programs import Program
from quietprobes.settings import Setting
from quietprobes.things import Thing
from quietprobes.turning import Turn, fewest_turns, stands
from quietprobes.verdicts import judge
from tests.samples import NO_NAMES, ODD_OBJECTS, same
from tests.samples_of_programs import mixed, program_of, things
from tests.wild_programs import Wild, wild_settings

GET, DROP, SIZE = ("get", "t", "a"), ("drop", "t", "a"), ("size", "t")
TWINS = {
    ("take", "f"): ("spy", "f"), ("drain", "f"): ("spy", "f"), ("roll", "d"): ("spy", "d"), ("get", "t", "a"): ("peek", "t", "a"),
    ("drop", "t", "b"): ("has", "t", "b"), ("look", "v"): ("glance", "v"), ("renew", "v"): ("glance", "v"), ("read", "l"): ("watch", "l"),
    ("mark", "n"): ("bound", "n"), ("peek", "t", "a"): ("peek", "t", "a"), ("has", "t", "b"): ("has", "t", "b"), ("size", "t"): ("size", "t"),
    ("keys", "t"): ("keys", "t"), ("glance", "v"): ("glance", "v"), ("watch", "l"): ("watch", "l"), ("tell", "n"): ("tell", "n"),
    ("bound", "n"): ("bound", "n"), ("spy", "s"): ("spy", "s"),
}


def probe(name, args=(), body=(), gate="always"):
    return "probe", name, gate, tuple(args), tuple(body)


def told(kind, program, names):
    return Turn(kind)(program, names)


class TurnTest(unittest.TestCase):
    def assert_turned(self, kind, row, wanted):
        for ahead in [[], [("say", "hi"), probe("other", [("take", "g")])]]:
            found = told(kind, program_of(*ahead, row, SIZE), [row[1]])
            self.assertIsInstance(found, Program)
            self.assertEqual(found, program_of(*ahead, wanted, SIZE))

    def test_attributes_and_equality(self):
        for kind in ("quiet", "lazy", "out"):
            self.assertEqual(Turn(kind).kind, kind)
            self.assertTrue(callable(Turn(kind)))
        for one, two in itertools.product(("quiet", "lazy", "out"), repeat=2):
            self.assertIs(Turn(one) == Turn(two), one == two)
            self.assertIs(Turn(one) != Turn(two), one != two)
        for thing in ["quiet", None, Thing.flag("quiet"), Setting()]:
            self.assertFalse(Turn("quiet") == thing)

    def test_bad_turn(self):
        for kind in [*ODD_OBJECTS, "on", "deaf", "Quiet", "quiet ", "", ("out",), ["lazy"], "quietlazy"]:
            with self.assertRaises(BadTurn) as caught:
                Turn(kind)
            self.assertTrue(same(caught.exception.turn, kind))

    def test_quiet(self):
        for look, twin in TWINS.items():
            for gate in ("always", "first", "later", "second"):
                self.assert_turned("quiet", probe("p", [look], [], gate), probe("p", [twin], [], gate))
                self.assert_turned("quiet", probe("p", [], [look], gate), probe("p", [], [twin], gate))
        looks = list(TWINS)[:6]
        twins = [TWINS[look] for look in looks]
        self.assert_turned("quiet", probe("p", looks[:2], looks[2:]), probe("p", twins[:2], twins[2:]))
        self.assert_turned("quiet", probe("p"), probe("p"))

    def test_quiet_asserts(self):
        for test, twin in [(("read", "l"), ("watch", "l")), (("watch", "l"), ("watch", "l")), (("has", "t", "a"), ("has", "t", "a")),
                           (("bound", "n"), ("bound", "n"))]:
            self.assert_turned("quiet", ("assert", "p", "second", (GET, ("mark", "n")), test),
                               ("assert", "p", "second", (("peek", "t", "a"), ("bound", "n")), twin))

    def test_lazy(self):
        for gate in ("always", "later"):
            self.assert_turned("lazy", probe("p", [GET, ("take", "f")], [DROP], gate), probe("p", [], [GET, ("take", "f"), DROP], gate))
        self.assert_turned("lazy", probe("p", [GET]), probe("p", [], [GET]))
        self.assert_turned("lazy", probe("p", [], [GET]), probe("p", [], [GET]))
        self.assert_turned("lazy", probe("p"), probe("p"))
        row = ("assert", "p", "first", (GET, ("mark", "n")), ("read", "l"))
        self.assert_turned("lazy", row, row)

    def test_out(self):
        for gate in ("always", "first"):
            self.assert_turned("out", probe("p", [GET], [DROP], gate), probe("p", [], [], gate))
            self.assert_turned("out", ("assert", "p", gate, (GET,), ("read", "l")), probe("p", [], [], gate))
        found = told("out", mixed(), ["hold"])
        self.assertEqual((found.probes, found.asserts, mixed().asserts), (mixed().probes, (), ("hold",)))

    def test_several_names(self):
        rows = {name: probe(name, [GET]) for name in "pqr"}
        quiet = {name: probe(name, [("peek", "t", "a")]) for name in "pqr"}
        program = program_of(*rows.values())
        for many in range(4):
            for names in itertools.permutations("pqr", many):
                wanted = program_of(*[(quiet if name in names else rows)[name] for name in "pqr"])
                for given in [list(names), names, [*names, *names], (*names, *names[:1])]:
                    self.assertEqual(told("quiet", program, given), wanted)
        self.assertEqual(program, program_of(*rows.values()))

    def test_in_all_parts(self):
        found = told("quiet", mixed(), ("last", "count"))
        self.assertEqual(found.rows[1], ("probe", "count", "always", (("peek", "t", "a"),), ()))
        self.assertEqual(found.rows[mixed().row_of("last")], ("probe", "last", "later", (("spy", "f"), ("bound", "n")), (("spy", "d"), ("spy", "l"))))
        self.assertEqual(found.rows[mixed().row_of("hold")], mixed().rows[mixed().row_of("hold")])
        self.assertEqual([len(rows) for _, rows in found.parts], [len(rows) for _, rows in mixed().parts])
        self.assertEqual((found.things, [name for name, _ in found.parts]), (mixed().things, ["main", "sub", "none"]))

    def test_turns_of_turned_programs(self):
        row = ("probe", "p", "first", (GET,), (("read", "l"),))
        program = program_of(row)
        lazy = told("lazy", program, ["p"])
        self.assertEqual(told("lazy", lazy, ["p"]), lazy)
        quiet = told("quiet", lazy, ["p"])
        self.assertEqual(quiet, program_of(("probe", "p", "first", (), (("peek", "t", "a"), ("watch", "l")))))
        self.assertEqual(told("lazy", told("quiet", program, ["p"]), ["p"]), quiet)
        self.assertEqual(told("quiet", quiet, ["p"]), quiet)
        self.assertEqual(told("quiet", told("out", quiet, ["p"]), ["p"]), program_of(("probe", "p", "first", (), ())))

    def test_no_probe(self):
        program = mixed()
        for kind in ("quiet", "lazy", "out"):
            for thing in [*ODD_OBJECTS, *NO_NAMES, "f", "main", "counts"]:
                for names in [[thing], (thing,), ["count", thing, "strange"], ("hold", thing), [thing, "count"]]:
                    with self.assertRaises(NoProbe) as caught:
                        Turn(kind)(program, names)
                    self.assertTrue(same(caught.exception.name, thing))
            self.assertEqual(told(kind, program, []), program)
            self.assertEqual(told(kind, program, ()), program)
        self.assertEqual(program, mixed())


class FewestTest(unittest.TestCase):
    def assert_fewest(self, program, setting, kind, chosen, against):
        found = fewest_turns(program, setting, Turn(kind))
        self.assertIs(type(found), tuple)
        self.assertEqual(len(found), 2)
        self.assertTrue(same(found[0], chosen), found)
        self.assertIs(type(found[1]), list)
        self.assertTrue(same([names for names, _ in found[1]], against), found[1])
        for names, contents in found[1]:
            self.assertIsInstance(contents, Contents)
            self.assertIsNotNone(compare(Turn(kind)(program, names), contents, setting))
            self.assertLessEqual(max(contents.lengths, default=0), 10000)
        if chosen is not None:
            self.assertTrue(judge(Turn(kind)(program, chosen), setting))

    def test_one_probe(self):
        program = program_of(probe("p", [GET]), SIZE)
        for kind, chosen, against in [("quiet", ("p",), [()]), ("out", ("p",), [()]), ("lazy", None, [(), ("p",)])]:
            self.assert_fewest(program, Setting("p"), kind, chosen, against)
        self.assert_fewest(program, Setting(deaf=["p"]), "lazy", ("p",), [()])
        self.assert_fewest(program, Setting(), "out", (), [])
        self.assert_fewest(program_of(probe("p", [], [GET]), SIZE), Setting(deaf=["p"]), "lazy", (), [])

    def test_without_probes(self):
        for kind in ("quiet", "lazy", "out"):
            self.assert_fewest(program_of(SIZE), Setting(), kind, (), [])
            self.assert_fewest(Program([], ("main", ())), Setting(), kind, (), [])

    def test_probes_that_are_out_are_not_turned(self):
        program = program_of(probe("a", [GET]), probe("p", [GET]), probe("z", [DROP]), SIZE)
        self.assert_fewest(program, Setting("p"), "quiet", ("p",), [()])
        self.assert_fewest(program, Setting("p", "z"), "quiet", (), [])
        self.assert_fewest(program, Setting("a", "p"), "quiet", ("a", "p"), [(), ("a",), ("p",)])
        self.assert_fewest(program, Setting("a", deaf=["p"]), "lazy", None, [(), ("a",), ("p",), ("a", "p")])

    def test_the_least_set_of_the_fewest(self):
        program = program_of(probe("q", [GET]), probe("c", [("mark", "n")]), ("drop", "t", "a"), probe("b", [("mark", "n")]), ("tell", "n"))
        self.assert_fewest(program, Setting("q", "c", "b"), "quiet", ("b", "c"),
                           [(), ("b",), ("c",), ("q",)])
        program = program_of(probe("z", [GET]), ("if", "ask", "w"), probe("y", [DROP]), ("else",), probe("x", [DROP]), ("end",), SIZE)
        self.assert_fewest(program, Setting("x", "y", "z"), "out", (), [])
        self.assert_fewest(program, Setting("x", "z"), "out", ("z",), [(), ("x",)])

    def test_turning_can_do_harm(self):
        # y drops what x makes: turning y alone is harmful, and turning nothing is not.
        program = program_of(probe("x", [GET]), probe("y", [DROP]), probe("z", [("mark", "n")]), SIZE, ("tell", "n"))
        self.assert_fewest(program, Setting("x", "y", "z"), "quiet", ("z",), [(), ("x",), ("y",)])

    def test_none(self):
        program = program_of(("lift", "l"), ("assert", "a", "always", (), ("read", "l")), probe("b", [], [("mark", "n")]), ("read", "l"))
        self.assert_fewest(program, Setting("a", "b"), "lazy", None, [(), ("a",), ("b",), ("a", "b")])
        self.assert_fewest(program, Setting("a", "b"), "quiet", ("a",), [()])
        self.assert_fewest(program, Setting("a", "b"), "out", ("a",), [()])

    def test_modes_are_kept(self):
        program = program_of(probe("p", [GET], [DROP]), SIZE)
        self.assert_fewest(program, Setting("p"), "lazy", (), [])
        self.assert_fewest(program, Setting(deaf=["p"]), "lazy", ("p",), [()])
        self.assert_fewest(program, Setting(deaf=["p"]), "quiet", ("p",), [()])

    def test_five_probes(self):
        rows = [probe(name, [("mark", "n")]) for name in "edcba"]
        found = fewest_turns(program_of(*rows, ("tell", "n")), Setting(*"abcde"), Turn("out"))
        self.assertEqual(found[0], tuple("abcde"))
        self.assertEqual([names for names, _ in found[1]], [names for many in range(5) for names in itertools.combinations("abcde", many)])

    def test_contents_of_the_turned_program(self):
        # With p turned, only the other way parts.
        rows = [("if", "ask", "w"), probe("p", [GET]), ("else",), probe("q", [GET]), ("end",), SIZE]
        found = fewest_turns(program_of(*rows), Setting("p", "q"), Turn("quiet"))
        self.assertEqual([names for names, _ in found[1]], [(), ("p",), ("q",)])
        self.assertEqual([contents.answers[:1] for _, contents in found[1][1:]], [(False,), (True,)])
        self.assert_fewest(program_of(*rows), Setting("p", "q"), "quiet", ("p", "q"), [(), ("p",), ("q",)])

    def test_random_programs(self):
        chosen = {0: 0, 1: 0, 2: 0, None: 0}
        for seed in range(250):
            chance = random.Random(seed)
            program = Wild(chance, most_things=2, most_rows=8, probes=3).program()
            setting = wild_settings(chance, program)[1]
            acting = setting.names()
            for kind in ("quiet", "lazy", "out"):
                sets = [names for many in range(len(acting) + 1) for names in itertools.combinations(acting, many)]
                good = [names for names in sets if judge(Turn(kind)(program, names), setting)]
                ahead = sets[:sets.index(good[0])] if good else sets
                self.assert_fewest(program, setting, kind, good[0] if good else None, ahead)
                many = len(good[0]) if good else None
                chosen[many] = chosen.get(many, 0) + 1
        self.assertTrue(min(chosen.values()) > 0, chosen)

    def test_refused(self):
        with self.assertRaises(NoProbe) as caught:
            fewest_turns(mixed(), Setting("z", "b", "count"), Turn("out"), limit=1)
        self.assertEqual(caught.exception.name, "b")
        many = program_of(*[probe(name) for name in "abcdef"])
        for setting in [Setting(*"abcdef"), Setting(deaf=list("abcdef"))]:
            with self.assertRaises(TooMany) as caught:
                fewest_turns(many, setting, Turn("out"), limit=1)
            self.assertEqual(caught.exception.limit, 5)
        self.assertEqual(fewest_turns(many, Setting(*"abcde"), Turn("out")), ((), []))
        with self.assertRaises(NoProbe) as caught:
            fewest_turns(many, Setting(*"abcdefg"), Turn("out"))
        self.assertEqual(caught.exception.name, "g")
        with self.assertRaises(NoProbe):
            fewest_turns(program_of(SIZE), Setting("p"), Turn("out"))

    def test_the_limit(self):
        # Turned out, the probes leave more ways: each makes the runs part, and stops them there.
        rows = [probe("p", [GET]), SIZE, probe("q", [("mark", "n")]), ("tell", "n"), ("say", "a"), ("say", "b")]
        program = program_of(*rows)
        numbers = [len(judge(Turn("out")(program, names), Setting("p", "q")).pairs) for names in [(), ("p",), ("q",), ("p", "q")]]
        self.assertEqual(numbers, [2, 4, 2, 7])
        for limit in (1, 2, 3, 4, 5, 6):
            with self.assertRaises(TooMany) as caught:
                fewest_turns(program, Setting("p", "q"), Turn("out"), limit=limit)
            self.assertEqual(caught.exception.limit, limit)
        self.assertEqual(fewest_turns(program, Setting("p", "q"), Turn("out"), limit=7)[0], ("p", "q"))

    def test_the_limit_does_not_count_behind_the_first_harmless_one(self):
        rows = [("if", "ask", "w"), probe("p", [("mark", "n")]), ("end",), ("keep", "n"), ("tell", "n")]
        program = program_of(*rows)
        here = len(judge(program, Setting("p")).pairs)
        self.assertEqual(fewest_turns(program, Setting("p"), Turn("out"), limit=here), ((), []))
        # Turned out, q does not drop the entry, so that more pairs are reached; but this set is not judged.
        rows = [("if", "ask", "w"), probe("p", [GET]), ("end",), probe("q", [DROP]), ("say", "a"), ("say", "b"), ("wipe", "t")]
        program = program_of(*rows)
        here, later = [len(judge(Turn("out")(program, names), Setting("p", "q")).pairs) for names in [(), ("q",)]]
        self.assertLess(here, later)
        self.assertEqual(fewest_turns(program, Setting("p", "q"), Turn("out"), limit=here), ((), []))
        self.assertRaises(TooMany, fewest_turns, program, Setting("p", "q"), Turn("out"), limit=here - 1)


class StandsTest(unittest.TestCase):
    def assert_stands(self, program, name, setting, wanted):
        found = stands(program, name, setting)
        self.assertTrue(same(found, wanted), found)
        part = program.part_of(program.row_of(name))
        for number in range(len(program)):
            if program.part_of(number) == part:
                self.assertIs(judge(program.moved(name, number), setting).is_harmless, number in wanted)

    def test_stands(self):
        # The rows without p are size, wipe, size.
        for at in range(4):
            rows = [SIZE, ("wipe", "t"), SIZE]
            rows.insert(at, probe("p", [GET]))
            self.assert_stands(program_of(*rows), "p", Setting("p"), [1, 3])
            self.assert_stands(program_of(*rows), "p", Setting(), [0, 1, 2, 3])
        self.assert_stands(program_of(probe("p", [GET])), "p", Setting("p"), [0])
        self.assert_stands(program_of(SIZE, probe("p", [GET]), ("while", "ask", "w"), ("end",), SIZE), "p", Setting("p"), [4])
        self.assert_stands(program_of(probe("p", [GET]), ("while", "ask", "w"), SIZE, ("end",)), "p", Setting("p"), [3])

    def test_none(self):
        self.assert_stands(program_of(probe("p", [GET]), ("while", "ask", "w"), SIZE, ("end",), SIZE), "p", Setting("p"), [4])
        program = Program(things(), ("main", [("call", "sub"), SIZE]), ("sub", [probe("p", [GET])]))
        self.assert_stands(program, "p", Setting("p"), [])

    def test_in_its_part(self):
        program = Program(things(), ("main", [SIZE, ("call", "sub"), SIZE]), ("sub", [("wipe", "t"), probe("p", [GET]), ("wipe", "t"), SIZE]))
        self.assert_stands(program, "p", Setting("p"), [3, 4])
        program = Program(things(), ("main", [probe("p", [GET]), ("call", "sub"), ("call", "none")]), ("sub", [SIZE]), ("none", ()))
        self.assert_stands(program, "p", Setting("p"), [1, 2])

    def test_beside_other_probes(self):
        rows = [probe("p", [GET]), ("say", "hi"), probe("q", [DROP]), SIZE]
        self.assert_stands(program_of(*rows), "p", Setting("p", "q"), [0, 1, 3])
        self.assert_stands(program_of(*rows), "q", Setting("p", "q"), [1, 2])
        self.assert_stands(program_of(*rows), "q", Setting("p"), [])
        self.assert_stands(program_of(*rows), "q", Setting("q"), [0, 1, 2, 3])
        self.assert_stands(program_of(*rows), "p", Setting(deaf=["p"]), [3])
        self.assert_stands(program_of(*rows), "p", Setting("q"), [0, 1, 2, 3])

    def test_random_programs(self):
        for seed in range(120):
            chance = random.Random(seed)
            program = Wild(chance, most_things=2, most_rows=8, probes=2).program()
            setting = wild_settings(chance, program)[1]
            for name in program.probes:
                part = program.part_of(program.row_of(name))
                numbers = [number for number in range(len(program)) if program.part_of(number) == part]
                self.assert_stands(program, name, setting, [number for number in numbers if judge(program.moved(name, number), setting)])

    def test_the_program_stays(self):
        program = mixed()
        stands(program, "count", Setting("count"))
        self.assertEqual(program, mixed())

    def test_refused(self):
        for thing in [*ODD_OBJECTS, *NO_NAMES, "f", "main", "counts"]:
            for setting in [Setting(), Setting("strange")]:
                with self.assertRaises(NoProbe) as caught:
                    stands(mixed(), thing, setting, limit=1)
                self.assertTrue(same(caught.exception.name, thing))
        with self.assertRaises(NoProbe) as caught:
            stands(mixed(), "count", Setting("z", "b"), limit=1)
        self.assertEqual(caught.exception.name, "b")

    def test_the_limit(self):
        program = program_of(probe("p", [GET]), SIZE, ("say", "a"), ("say", "b"))
        numbers = [len(judge(program.moved("p", number), Setting("p")).pairs) for number in range(4)]
        self.assertEqual(numbers, [2, 5, 5, 5])
        self.assertEqual(stands(program, "p", Setting("p"), limit=5), [1, 2, 3])
        for limit in range(1, 5):
            with self.assertRaises(TooMany) as caught:
                stands(program, "p", Setting("p"), limit=limit)
            self.assertEqual(caught.exception.limit, limit)
        # It is enough that the last number is too much.
        program = program_of(SIZE, ("say", "a"), probe("p", [GET]), ("keys", "t"), ("say", "b"))
        numbers = [len(judge(program.moved("p", number), Setting("p")).pairs) for number in range(5)]
        self.assertEqual(max(numbers[:3]), 4)
        self.assertRaises(TooMany, stands, program, "p", Setting("p"), limit=4)
