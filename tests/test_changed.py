"""Programs without a probe, focused ones, and those with a probe moved [28]."""

import random
import unittest

from quietprobes.errors import NoProbe, NoRow, NoThing
from quietprobes.programs import Program
from tests.samples import NO_NAMES, ODD_OBJECTS, same
from tests.samples_of_programs import COUNT, HOLD, LAST, mixed, program_of, random_program, things

TAKE, STOP = ("take", "f"), ("stop",)


def probe(name, args=(), body=()):
    return ("probe", name, "first", args, body)


class Changing(unittest.TestCase):
    def assert_refused(self, error, bad, change):
        program = mixed()
        with self.assertRaises(error) as caught:
            change(program, bad)
        self.assertTrue(same(list(vars(caught.exception).values()), [bad]), bad)
        self.assertEqual(program, mixed())

    def assert_no_probe(self, change):
        for bad in [*ODD_OBJECTS, *NO_NAMES, "x", "f", "main", "a", COUNT, ["count"], ("count",), "Count"]:
            self.assert_refused(NoProbe, bad, change)


class WithoutTest(Changing):
    def test_without_a_probe(self):
        program = mixed()
        main, sub, none = program.parts
        self.assertEqual(program - "count", Program(things(), ("main", main[1][:1] + main[1][2:]), sub, none))
        self.assertEqual(program - "hold", Program(things(), ("main", main[1][:6] + main[1][7:]), sub, none))
        self.assertEqual(program - "last", Program(things(), main, ("sub", (("take", "g"),)), none))
        self.assertEqual(program, mixed())
        self.assertEqual((program - "hold").asserts, ())
        self.assertEqual((program - "hold").probes, ("count", "last"))
        self.assertEqual((program - "count").row_of("last"), 10)

    def test_without_the_only_row(self):
        program = Program(things(), ("a", [COUNT]), ("b", [HOLD]))
        self.assertEqual(program - "count", Program(things(), ("a", ()), ("b", [HOLD])))
        self.assertEqual(program - "count" - "hold", Program(things(), ("a", ()), ("b", ())))
        self.assertEqual((program - "count").first_place(), ())

    def test_no_probes(self):
        self.assert_no_probe(lambda program, bad: program - bad)
        with self.assertRaises(NoProbe):
            mixed() - "count" - "count"


class FocusedTest(Changing):
    def test_looks_at_other_things_become_spies(self):
        program = program_of(
            probe("p", (("get", "t", "a"), ("take", "f")), (("mark", "n"), ("has", "t", "b"))), ("get", "t", "a"), TAKE)
        t_alone = probe("p", (("get", "t", "a"), ("spy", "f")), (("spy", "n"), ("has", "t", "b")))
        self.assertTrue(same(program.focused("t").rows, (t_alone, ("get", "t", "a"), TAKE)))
        f_and_n = probe("p", (("spy", "t"), ("take", "f")), (("mark", "n"), ("spy", "t")))
        self.assertTrue(same(program.focused("n", "f").rows, (f_and_n, ("get", "t", "a"), TAKE)))
        spies = probe("p", (("spy", "t"), ("spy", "f")), (("spy", "n"), ("spy", "t")))
        self.assertTrue(same(program.focused().rows, (spies, ("get", "t", "a"), TAKE)))
        self.assertEqual(program.focused("f", "t", "n"), program)
        self.assertEqual(program.focused("t", "t", "t"), program.focused("t"))
        self.assertEqual(program.focused("s").rows, program.focused().rows)

    def test_tests_of_asserts_stay(self):
        row = ("assert", "q", "later", (("read", "l"), ("bound", "n")), ("read", "l"))
        for names, args in [((), (("spy", "l"), ("spy", "n"))), (("l",), (("read", "l"), ("spy", "n"))),
                            (("n", "t"), (("spy", "l"), ("bound", "n")))]:
            self.assertTrue(same(program_of(row).focused(*names).rows, ((*row[:3], args, ("read", "l")),)))

    def test_rows_of_the_program_stay(self):
        rows = [TAKE, ("if", "has", "t", "a"), ("while", "take", "f"), ("end",), ("else",), ("end",), STOP]
        self.assertEqual(program_of(*rows).focused(), program_of(*rows))

    def test_the_program_itself_stays(self):
        program = mixed()
        focused = program.focused("t")
        self.assertEqual(program, mixed())
        self.assertEqual([name for name, _ in focused.parts], ["main", "sub", "none"])
        self.assertEqual(focused.things, program.things)
        self.assertEqual(focused.rows[6], ("assert", "hold", "first", (("spy", "v"),), ("bound", "n")))
        last = ("probe", "last", "later", (("spy", "f"), ("spy", "n")), (("spy", "d"), ("spy", "l")))
        self.assertEqual(focused.rows[11], last)

    def test_names_of_no_things(self):
        for bad in [*ODD_OBJECTS, *NO_NAMES, "x", "a", "count", "main", ["f"], ("f",), "F"]:
            self.assert_refused(NoThing, bad, lambda program, name: program.focused(name))
            self.assert_refused(NoThing, bad, lambda program, name: program.focused("f", "t", name, "n"))
            self.assert_refused(NoThing, bad, lambda program, name: program.focused(name, "x", None))


class MovedTest(Changing):
    def test_to_each_number(self):
        rows = [("say", "a"), ("say", "b"), ("say", "c")]
        for at in range(4):
            program = program_of(*rows[:at], COUNT, *rows[at:])
            for number in range(4):
                self.assertEqual(program.moved("count", number), program_of(*rows[:number], COUNT, *rows[number:]))
            self.assertEqual(program, program_of(*rows[:at], COUNT, *rows[at:]))
            for bad in [4, 5, -1, 60]:
                with self.assertRaises(NoRow) as caught:
                    program.moved("count", bad)
                self.assertEqual(caught.exception.number, bad)

    def test_in_a_program_of_several_parts(self):
        rows = [("say", "a"), COUNT, ("say", "b")]
        program = Program(things(), ("a", [STOP, HOLD]), ("none", ()), ("b", rows), ("c", [LAST, STOP]))
        others = [("say", "a"), ("say", "b")]
        for number in range(7):
            if number in (2, 3, 4):
                wanted = [*others[:number - 2], COUNT, *others[number - 2:]]
                self.assertEqual(program.moved("count", number).parts, (
                    ("a", (STOP, HOLD)), ("none", ()), ("b", tuple(wanted)), ("c", (LAST, STOP))))
            else:
                with self.assertRaises(NoRow):
                    program.moved("count", number)
        self.assertEqual([number for number in range(9) if self.is_moved(program, "hold", number)], [0, 1])
        self.assertEqual([number for number in range(9) if self.is_moved(program, "last", number)], [5, 6])

    def is_moved(self, program, name, number):
        try:
            program.moved(name, number)
        except NoRow:
            return False
        return True

    def test_the_only_row_of_a_part(self):
        program = Program(things(), ("a", [STOP]), ("b", [COUNT]), ("c", [LAST]))
        self.assertEqual(program.moved("count", 1), program)
        self.assertEqual(program.moved("last", 2), program)
        for name, bad in [("count", 0), ("count", 2), ("last", 1), ("last", 3)]:
            with self.assertRaises(NoRow):
                program.moved(name, bad)
        self.assertEqual(program_of(COUNT).moved("count", 0), program_of(COUNT))

    def test_into_and_out_of_blocks(self):
        program = program_of(COUNT, ("if", "ask", "w"), TAKE, ("end",))
        moved = program.moved("count", 1)
        self.assertEqual(moved, program_of(("if", "ask", "w"), COUNT, TAKE, ("end",)))
        self.assertEqual(moved.behind((0,), False), ())
        self.assertEqual(moved.moved("count", 0), program)
        self.assertEqual(moved.moved("count", 3), program_of(("if", "ask", "w"), TAKE, ("end",), COUNT))

    def test_numbers_that_are_none(self):
        for bad in [*ODD_OBJECTS, -1, 10, 11, 12, "1", [1], (1,), [0], 10 ** 39, -10 ** 39]:
            if not (type(bad) is int and 0 <= bad < 10):
                self.assert_refused(NoRow, bad, lambda program, number: program.moved("count", number))

    def test_no_probes(self):
        self.assert_no_probe(lambda program, bad: program.moved(bad, 0))
        self.assert_no_probe(lambda program, bad: program.moved(bad, True))
        self.assert_no_probe(lambda program, bad: program.moved(bad, 99))

    def test_random_programs(self):
        chance = random.Random(28)
        for _ in range(40):
            program = random_program(chance, 20)
            for name in program.probes:
                without = program - name
                part = program.part_of(program.row_of(name))
                at = program.row_of(name)
                self.assertEqual(without.rows, (*program.rows[:at], *program.rows[at + 1:]))
                for number in range(len(program)):
                    if program.part_of(number) == part:
                        moved = program.moved(name, number)
                        self.assertEqual(moved - name, without)
                        self.assertEqual((moved.row_of(name), moved.part_of(number)), (number, part))
