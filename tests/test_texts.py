"""The texts of programs [13]."""

import random
import unittest

from quietprobes.errors import BadText, NoKey, NoPart, NoThing, TooMany, Twice, Unmatched
from quietprobes.programs import Program
from quietprobes.things import Thing
from tests.samples import NO_NAMES, ODD_OBJECTS, same
from tests.samples_of_programs import mixed, random_program

MIXED = """feed f
feed g
dice d
table t a b
source s
field v s
flag l
slot n
part main
fetch f
probe count always get t a /
while take f
if has t a
call sub
else
assert hold first look v / bound n
end
end
call none
part sub
take g
probe last later take f , mark n / roll d , spy l
part none"""


class TextTest(unittest.TestCase):
    def test_text(self):
        self.assertEqual(str(mixed()), MIXED)
        self.assertEqual(str(Program([], ("main", ()))), "part main")
        program = Program([Thing.table("t")], ("a", [("stop",)]), ("b", ()))
        self.assertEqual(str(program), "table t\npart a\nstop\npart b")

    def test_read(self):
        program = Program.read(MIXED)
        self.assertEqual(program, mixed())
        self.assertTrue(same(program.parts, mixed().parts))
        self.assertEqual(Program.read("part main"), Program([], ("main", ())))
        self.assertEqual(Program.read("table t\npart a\nstop\npart b"),
                         Program([Thing.table("t")], ("a", [("stop",)]), ("b", ())))

    def test_names_that_are_words(self):
        text = "feed feed\ntable part table\npart part\ntake feed\nget part table\ncall end\npart end\nend"
        with self.assertRaises(Unmatched) as caught:
            Program.read(text)
        self.assertEqual(caught.exception.number, 3)
        program = Program.read(text[:-4])
        self.assertEqual(str(program), text[:-4])
        self.assertEqual(program.parts[1], ("end", ()))

    def test_random_programs(self):
        chance = random.Random(130)
        for _ in range(60):
            program = random_program(chance)
            self.assertEqual(Program.read(str(program)), program)
            self.assertEqual(str(Program.read(str(program))), str(program))


class RefusedTest(unittest.TestCase):
    def assert_bad(self, line, text):
        with self.assertRaises(BadText, msg=text) as caught:
            Program.read(text)
        self.assertTrue(same(caught.exception.line, line), (caught.exception.line, text))

    def assert_error(self, error, value, text):
        with self.assertRaises(error) as caught:
            Program.read(text)
        self.assertTrue(same(list(vars(caught.exception).values()), [value]))

    def test_objects_that_are_no_strings(self):
        for bad in [*ODD_OBJECTS, *NO_NAMES, ["part main"], ("part main",), mixed(), list(MIXED.split("\n"))]:
            if not isinstance(bad, str):
                self.assert_bad(-1, bad)

    def test_strings_without_a_right_line(self):
        for bad in [*ODD_OBJECTS, *NO_NAMES, "take f", "stop", "part", "part ", "main", "part A", "part a b", "Part a",
                    " part a", "part  a", "part a ", "part abcdefghi", "part 1", "part main,", "part main ; stop",
                    "parts main", "program", "a" * 20000, "\n" * 20000]:
            if isinstance(bad, str):
                self.assert_bad(0, bad)

    def test_empty_lines(self):
        self.assert_bad(0, "")
        self.assert_bad(0, "\npart main")
        self.assert_bad(1, "part main\n")
        self.assert_bad(1, "feed f\n\npart main")
        self.assert_bad(2, "part main\nstop\n")
        self.assert_bad(2, "part main\nstop\n\nstop")
        self.assert_bad(len(MIXED.split("\n")), MIXED + "\n")

    def test_lines_of_things_behind_parts(self):
        self.assert_bad(1, "part main\nfeed f")
        self.assert_bad(3, "feed f\npart main\nstop\nfeed g\npart sub")
        self.assert_bad(1, "part main\ntable t a\ntake f")

    def test_rows_ahead_of_all_parts(self):
        self.assert_bad(0, "stop\npart main")
        self.assert_bad(1, "feed f\ntake f\npart main\ntake f")
        self.assert_bad(0, "probe p always /\npart main")

    def test_tables(self):
        self.assertEqual(len(Program.read("table t a b c d\npart main").things[0].parts), 4)
        self.assert_bad(0, "table t a b c d e\npart main")
        self.assert_bad(1, "feed f\ntable t a b a\npart main")
        self.assert_bad(1, "feed f\ntable t a a\npart main")
        self.assert_bad(2, "feed f\nfeed f\ntable t a b c d a")

    def test_the_first_wrong_line_counts(self):
        self.assert_bad(1, "part main\ntake F\ntake G")
        self.assert_bad(2, "feed f\npart main\nfeed g\nstop \npart Main")
        self.assert_bad(1, "feed f\nfeed F\nstop")

    def test_each_line_of_a_text_made_wrong(self):
        lines = MIXED.split("\n")
        for at, line in enumerate(lines):
            for bad in ["", line + " ", " " + line, line.upper(), line + " x y z", line.replace(" ", "  ", 1) + " ",
                        line + ",", "nothing", "part", "1", line[:-1] + "A"]:
                self.assert_bad(at, "\n".join([*lines[:at], bad, *lines[at + 1:]]))
                self.assert_bad(at, "\n".join([*lines[:at], bad, *["?"] * 5]))

    def test_wrong_lines_ahead_of_errors_of_the_program(self):
        self.assert_bad(2, "feed f\nfeed f\nstop")
        self.assert_bad(3, "feed f\nfeed f\npart main\ntake\npart main")
        self.assert_bad(2, "part main\ntake f\n")
        self.assert_bad(61, "part main\n" + "stop\n" * 60)
        self.assert_bad(6, "part a\npart a\npart a\npart a\npart a\npart a\npart A")

    def test_errors_of_the_program(self):
        self.assert_error(NoPart, None, "feed f")
        self.assert_error(NoPart, None, "source s\nfield v s")
        self.assert_error(Twice, "f", "feed f\nfeed f")
        self.assert_error(Twice, "f", "feed f\nslot f\npart main\npart main")
        self.assert_error(NoThing, "s", "field v s\nsource s\npart main")
        self.assert_error(TooMany, 8, "\n".join(f"slot {name}" for name in "abcdefghi"))
        self.assert_error(TooMany, 5, "\n".join(f"part {name}" for name in "abcdef"))
        self.assert_error(Twice, "a", "part a\npart b\npart a")
        self.assert_error(TooMany, 60, "part main" + "\nstop" * 61)
        self.assert_error(NoThing, "f", "part main\ntake f")
        self.assert_error(NoKey, "b", "table t a\npart main\nget t b")
        self.assert_error(NoKey, "b", "table t a\npart main\nprobe p always spy t / has t b")
        self.assert_error(Twice, "p", "part main\nprobe p always /\nprobe p first /")
        self.assert_error(NoPart, "main", "part main\ncall main")
        self.assert_error(Unmatched, 1, "part main\nstop\nend")
        self.assert_error(Unmatched, 0, "part main\nif ask w\npart sub\nend")
        self.assert_error(TooMany, 8, "part main" + "\nif ask w" * 9)
