"""How programs are made and asked [12]."""

import random
import unittest

from quietprobes import programs
from quietprobes.errors import NoProbe, NoRow, QuietError
from quietprobes.programs import Program
from quietprobes.things import Thing
from quietprobes.worlds import World
from tests.samples import NO_NAMES, ODD_OBJECTS, same
from tests.samples_of_programs import COUNT, HOLD, LAST, mixed, program_of, random_program, things

NO_NUMBERS = [True, False, None, -1, -2, 10 ** 39, -10 ** 39, "0", "", (), [], (0,), [0], ([0],), ("a", [1])]
NO_PROBES = [*NO_NAMES, "a", "t", "main", "take", "probe", "zzz", ("count",), ["count"], "Count", "count ", COUNT]


class MadeTest(unittest.TestCase):
    def test_attributes(self):
        program = mixed()
        self.assertIsInstance(program.things, tuple)
        self.assertEqual(program.things, tuple(things()))
        main = (("fetch", "f"), COUNT, ("while", "take", "f"), ("if", "has", "t", "a"), ("call", "sub"), ("else",),
                HOLD, ("end",), ("end",), ("call", "none"))
        self.assertTrue(same(program.parts, (("main", main), ("sub", (("take", "g"), LAST)), ("none", ()))))
        self.assertTrue(same(program.rows, (*main, ("take", "g"), LAST)))
        self.assertTrue(same(program.probes, ("count", "hold", "last")))
        self.assertTrue(same(program.asserts, ("hold",)))

    def test_lists_and_tuples(self):
        rows = [("take", "f"), COUNT]
        made = [Program(x, ("main", y)) for x in [things(), tuple(things())] for y in [rows, tuple(rows)]]
        for program in made:
            self.assertEqual(program, made[0])
            self.assertTrue(same(program.parts, (("main", (("take", "f"), COUNT)),)))
            self.assertIsInstance(program.things, tuple)

    def test_lists_that_are_changed_afterwards(self):
        its_things, rows = things(), [("take", "f"), COUNT]
        program = Program(its_things, ("main", rows), ("sub", []))
        its_things.pop()
        rows.append(("stop",))
        rows[0] = ("stop",)
        self.assertEqual(program, Program(things(), ("main", (("take", "f"), COUNT)), ("sub", ())))
        self.assertEqual(program.rows, (("take", "f"), COUNT))
        self.assertEqual(len(program), 2)
        self.assertEqual(str(program).split("\n")[-2:], ["probe count always get t a /", "part sub"])

    def test_arguments_are_not_changed(self):
        its_things, rows = things(), [COUNT, ("stop",)]
        Program(its_things, ("main", rows))
        self.assertEqual((its_things, rows), (things(), [COUNT, ("stop",)]))

    def test_no_things_and_no_rows(self):
        program = Program([], ("main", ()))
        self.assertTrue(same((program.things, program.parts, program.rows), ((), (("main", ()),), ())))
        self.assertTrue(same((program.probes, program.asserts, len(program), list(program)), ((), (), 0, [])))
        self.assertEqual(len(Program((), ("main", [("say", "hi"), ("stop",)]))), 2)
        self.assertEqual(Program([], ("a", []), ("b", [("stop",)]), ("c", [])).rows, (("stop",),))

    def test_many_rows_parts_and_things(self):
        self.assertEqual(len(program_of(*[("stop",)] * 60)), 60)
        parts = [(name, [("take", "f")] * 12) for name in "abcde"]
        self.assertEqual(len(Program(things(), *parts)), 60)
        self.assertEqual([name for name, _ in Program(things(), *parts).parts], list("abcde"))
        self.assertEqual(len(Program([Thing.slot(name) for name in "abcdefgh"], ("main", [])).things), 8)

    def test_eight_blocks(self):
        for inner in [("while", "ask", "w"), ("if", "ask", "w")]:
            program = program_of(*[("if", "ask", "w")] * 7, inner, *[("end",)] * 8, *[inner] * 8, *[("end",)] * 8)
            self.assertEqual(len(program), 32)

    def test_blocks_side_by_side_are_not_nested(self):
        self.assertEqual(len(program_of(*[("if", "ask", "w"), ("else",), ("end",)] * 20)), 60)
        parts = [(name, [("if", "ask", "w")] * 6 + [("call", "e")] * (name != "e") + [("end",)] * 5 + [("end",)])
                 for name in "bcde"]
        self.assertEqual(len(Program([], *parts)), 51)

    def test_a_probe_may_have_any_name(self):
        for name in ["f", "main", "probe", "always", "a", "get"]:
            self.assertEqual(program_of(("probe", name, "always", (), ())).probes, (name,))

    def test_calls_of_later_parts(self):
        program = Program([], ("a", [("call", "c"), ("call", "b")]), ("b", [("call", "c")] * 2), ("c", []))
        self.assertEqual(len(program), 4)

    def test_arguments_by_name(self):
        with self.assertRaises(QuietError):
            Program(things=[])
        program = mixed()
        self.assertEqual(program.row_of(name="hold"), 6)
        self.assertEqual(program.part_of(number=6), "main")
        self.assertEqual(program.is_place(place=(4, 10)), True)
        self.assertEqual(program.behind(place=(3,), answer=False), (6,))
        self.assertEqual(program.behind(answer=True, place=(3,)), (4,))
        self.assertEqual(program.moved(number=0, name="count"), program.moved("count", 0))
        self.assertEqual(Program.read(text=str(program)), program)

    def test_methods_are_its_own(self):
        for name in ["__len__", "__getitem__", "__iter__", "__contains__", "__sub__", "__eq__", "__str__", "row_of",
                     "part_of", "focused", "moved", "first_place", "is_place", "behind", "read"]:
            self.assertIn(name, vars(Program))
        self.assertIsInstance(vars(Program)["read"], staticmethod)
        self.assertEqual(Program.__module__, programs.__name__)


class AskedTest(unittest.TestCase):
    def test_rows_by_number(self):
        program = mixed()
        self.assertEqual(len(program), 12)
        for number, row in enumerate(program.rows):
            self.assertEqual(program[number], row)
        self.assertEqual(list(program), list(program.rows))
        self.assertEqual([row for row in program], list(program.rows))

    def test_no_rows(self):
        for program in [mixed(), Program([], ("main", ()))]:
            for bad in [*NO_NUMBERS, len(program), len(program) + 1, *[x for x in NO_NAMES if type(x) is not int]]:
                for ask in [program.part_of, lambda number: program[number]]:
                    with self.subTest(bad=bad), self.assertRaises(NoRow) as caught:
                        ask(bad)
                    self.assertTrue(same(caught.exception.number, bad))

    def test_part_of(self):
        self.assertEqual([mixed().part_of(number) for number in range(12)], ["main"] * 10 + ["sub"] * 2)
        program = Program([], ("a", ()), ("b", [("stop",)]), ("c", ()), ("d", [("stop",)] * 2), ("e", ()))
        self.assertEqual([program.part_of(number) for number in range(3)], ["b", "d", "d"])

    def test_row_of(self):
        self.assertEqual([mixed().row_of(name) for name in ["count", "hold", "last"]], [1, 6, 11])
        program = program_of(("say", "count"), COUNT)
        self.assertEqual(program.row_of("count"), 1)

    def test_no_probes(self):
        program = mixed()
        for bad in NO_PROBES:
            with self.subTest(bad=bad), self.assertRaises(NoProbe) as caught:
                program.row_of(bad)
            self.assertTrue(same(caught.exception.name, bad))

    def test_contains(self):
        program = mixed()
        for name in ["count", "hold", "last"]:
            self.assertIs(name in program, True)
        for bad in [*NO_PROBES, *ODD_OBJECTS, *program.rows]:
            self.assertIs(bad in program, False)
        self.assertNotIn("count", Program([], ("main", ())))

    def test_random_programs(self):
        chance = random.Random(12)
        for _ in range(50):
            program = random_program(chance)
            rows = [row for _, own in program.parts for row in own]
            self.assertEqual(list(program.rows), rows)
            named = [(at, row) for at, row in enumerate(rows) if row[0] in ("probe", "assert")]
            self.assertEqual(program.probes, tuple(row[1] for _, row in named))
            self.assertEqual([program.row_of(row[1]) for _, row in named], [at for at, _ in named])
            owners = [name for name, own in program.parts for _ in own]
            self.assertEqual([program.part_of(at) for at in range(len(program))], owners)


class ComparedTest(unittest.TestCase):
    def test_equal_only_with_equal_things_and_parts(self):
        stop, feed = ("stop",), Thing.feed("f")
        made = [
            lambda: Program([], ("a", ())), lambda: Program([], ("b", ())), lambda: Program([feed], ("a", ())),
            lambda: Program([], ("a", [stop])), lambda: Program([], ("a", [stop, stop])),
            lambda: Program([], ("a", [stop]), ("b", [stop])), lambda: Program([], ("a", [stop, stop]), ("b", ())),
            lambda: Program([], ("a", ()), ("b", [stop, stop])), lambda: Program([], ("a", ()), ("b", ())),
            lambda: Program([], ("b", ()), ("a", ())), lambda: Program([], ("a", [("say", "a")])),
            lambda: Program([feed, Thing.slot("n")], ("a", ())), lambda: Program([Thing.slot("n"), feed], ("a", ())),
            lambda: program_of(COUNT), lambda: program_of(HOLD), mixed,
        ]
        for at, make in enumerate(made):
            for place, other in enumerate(made):
                self.assertIs(make() == other(), at == place)
                self.assertIs(make() != other(), at != place)

    def test_equal_to_nothing_of_another_class(self):
        program = Program([], ("main", [("stop",)]))
        others = [*ODD_OBJECTS, World(), Thing.feed("f"), "part main\nstop", (("stop",),), [("stop",)], Program]
        for other in others:
            self.assertIs(program == other, False)
            self.assertIs(other == program, False)
            self.assertIs(program != other, True)
