"""The lines of rows and of things [13]."""

import random
import re
import unittest

from quietprobes.rows import is_row, read_row, row_text
from quietprobes.things import Thing, read_thing
from tests.samples import same
from tests.test_rows import GATES, looks, rows_without_probes

LINES = {
    "probe p always /": ("probe", "p", "always", (), ()),
    "probe p first get t a /": ("probe", "p", "first", (("get", "t", "a"),), ()),
    "probe p later / take f": ("probe", "p", "later", (), (("take", "f"),)),
    "probe p second get t a / take f": ("probe", "p", "second", (("get", "t", "a"),), (("take", "f"),)),
    "probe p always get t a , mark n / spy x , roll d , has t b": (
        "probe", "p", "always", (("get", "t", "a"), ("mark", "n")), (("spy", "x"), ("roll", "d"), ("has", "t", "b"))),
    "probe p always take f , take f , take f , take f , take f , take f /": (
        "probe", "p", "always", (("take", "f"),) * 6, ()),
    "probe probe always / spy probe": ("probe", "probe", "always", (), (("spy", "probe"),)),
    "assert q always / bound n": ("assert", "q", "always", (), ("bound", "n")),
    "assert q first / has t a": ("assert", "q", "first", (), ("has", "t", "a")),
    "assert q later read l / read l": ("assert", "q", "later", (("read", "l"),), ("read", "l")),
    "assert q second get t a , drop t a / watch l": (
        "assert", "q", "second", (("get", "t", "a"), ("drop", "t", "a")), ("watch", "l")),
    "take f": ("take", "f"),
    "stop": ("stop",),
    "else": ("else",),
    "end": ("end",),
    "say hi": ("say", "hi"),
    "call more": ("call", "more"),
    "while ask more": ("while", "ask", "more"),
    "while take f": ("while", "take", "f"),
    "if has t a": ("if", "has", "t", "a"),
    "if ask ask": ("if", "ask", "ask"),
    "copy n m": ("copy", "n", "m"),
    "fetch f": ("fetch", "f"),
    "load t": ("load", "t"),
}
NO_LINES = [
    "", " ", "  ", "\n", ",", "/", "probe", "assert", "probe p", "probe p always", "probe p / always", "probe / always",
    "probe /", "probe / / /", "probe p /", "probe p always / /", "probe p always // ", "probe p always //", "/ take f",
    "probe p always take f", "probe p always , /", "probe p always / ,", "probe p always take f , /",
    "probe p always , take f /", "probe p always / take f ,", "probe p always / , take f",
    "probe p always take f , , take f /", "probe p always take f take f /", "probe p always / take f take f",
    "probe p always take f, take f /", "probe p always take f ,take f /", "probe p always take f,take f /",
    "probe p always take , f /", "probe p always take f / take f / take f", "probe p always skip f /",
    "probe p always has t /", "probe p always has t a b /", "probe p always mark n p /", "probe p never /",
    "probe P always /", "probe abcdefghi always /", "probe p always  /", "probe p always / ", " probe p always /",
    "probe  p always /", "probe p  always /", "probe p always /  take f", "probe p always take f  /",
    "probe p always take f /take f", "probe p always take f/ take f", "probe p always take f\n/", "probe p always /\n",
    "probe p always\n/", "Probe p always /", "probe p Always /", "probe p always take F /",
    "probe p always take f , take f , take f , take f / take f , take f , take f",
    "probe p always take f , take f , take f , take f , take f , take f , take f /",
    "assert q always /", "assert q always", "assert q always bound n", "assert q always bound n /",
    "assert q always / bound", "assert q always / bound n m", "assert q always / bound n , bound n",
    "assert q always / bound n ,", "assert q always / , bound n", "assert q always / take f", "assert q always / ask w",
    "assert q always / if bound n", "assert q always // bound n", "assert q always / / bound n",
    "assert q always bound n , / bound n", "assert q always / bound n / bound n", "assert q always / bound n ",
    "assert q always take f , take f , take f , take f , take f , take f , take f / bound n",
    "take", "take ", "take  f", " take f", "take f ", "take f g", "take f\n", "\ntake f", "take\nf", "Take f", "take F",
    "take 1", "take f,", "take f , take f", "take f /", "stop stop", "stop ", " stop", "stops", "end if", "else end",
    "say", "say hi ho", "say hi!", "say Hi", "say abcdefghi", "call", "call a b", "has t a", "bound n", "mark n",
    "mark n p", "spy f", "ask w", "fetch f 1", "load t a", "if", "if ask", "if has t", "if watch l", "if peek t a",
    "if if ask w", "while", "while has t a", "while read l", "while bound n", "part main", "feed f", "table t a",
    "get t", "get t a b", "bind f", "copy n", "~", "`", "take\tf", "take f\n\n", "take f\ntake f", "end\n", "\nend",
]
NAME = "[a-z]{1,8}"
LOOK = (f"((take|drain|roll|look|renew|read|mark|size|keys|glance|watch|tell|bound|spy) {NAME}"
        f"|(get|drop|peek|has) {NAME} {NAME})")
LOOKS = f"({LOOK}( , {LOOK})*)"
GATE = "(always|first|later|second)"
TEST = f"(has {NAME} {NAME}|(bound|read|watch) {NAME})"
PLAIN = (f"(take|skip|drain|fetch|roll|seed|size|keys|load|wipe|change|look|glance|renew|lift|read|watch|keep|tell|say"
         f"|call) {NAME}|(bind|get|peek|put|fill|drop|copy) {NAME} {NAME}|stop|else|end"
         f"|if (ask|take|read|bound) {NAME}|if has {NAME} {NAME}|while (ask|take) {NAME}")
LINE = re.compile(f"{PLAIN}|probe {NAME} {GATE}( {LOOKS})? /( {LOOKS})?|assert {NAME} {GATE}( {LOOKS})? / {TEST}")


def is_line(line):
    """Whether a string is the line of a row, told by a pattern and the number of looks."""
    if not LINE.fullmatch(line):
        return False
    args, _, rest = line.partition("/")
    commas = args.count(",") + (rest.count(",") if line.startswith("probe ") else 0)
    if not line.startswith(("probe ", "assert ")):
        return True
    many = commas + (len(args.split()) > 3) + (line.startswith("probe ") and rest != "")
    return many <= 6


class RowLinesTest(unittest.TestCase):
    def test_lines_of_rows(self):
        for line, row in LINES.items():
            with self.subTest(line=line):
                self.assertEqual(row_text(row), line)
                self.assertTrue(same(read_row(line), row))

    def test_each_row_that_is_no_probe(self):
        for row in rows_without_probes():
            self.assertEqual(row_text(row), " ".join(row))
            self.assertTrue(same(read_row(" ".join(row)), row))

    def test_each_look_in_probes_and_asserts(self):
        for look in looks():
            for gate in GATES:
                for args in [(), (look,), (("spy", "x"), look, look)]:
                    for row in [("probe", "p", gate, args, (look, ("spy", "x"))), ("probe", "p", gate, args, ()),
                                ("assert", "p", gate, args, ("has", "t", "k"))]:
                        self.assertTrue(same(read_row(row_text(row)), row), row)
                        self.assertTrue(is_line(row_text(row)), row)

    def test_strings_that_are_no_lines(self):
        for line in NO_LINES:
            with self.subTest(line=line):
                self.assertIsNone(read_row(line))
                self.assertFalse(is_line(line))

    def test_a_space_or_a_line_feed_more(self):
        for line in LINES:
            for char in " \n,/":
                for at in range(len(line) + 1):
                    changed = line[:at] + char + line[at:]
                    self.assertIs(read_row(changed) is not None, is_line(changed), changed)

    def test_words_left_out_doubled_and_changed(self):
        chance = random.Random(13)
        others = sorted({word for line in LINES for word in line.split(" ")} | {"", ",", "/", "skip", "A", "x,"})
        for line in list(LINES) * 40:
            words = line.split(" ")
            at = chance.randrange(len(words))
            words[at:at + chance.randrange(2)] = [chance.choice(others) for _ in range(chance.randrange(3))]
            changed = " ".join(words)
            row = read_row(changed)
            self.assertIs(row is not None, is_line(changed), changed)
            if row is not None:
                self.assertTrue(is_row(row))
                self.assertEqual(row_text(row), changed)

    def test_long_strings(self):
        for text in ["a" * 20000, " " * 20000, "take f " * 2800, "probe p always / " + "take f , " * 2000,
                     "probe p always" + " /" * 9000, "assert p always / " + "a" * 19000, ", " * 10000]:
            self.assertIsNone(read_row(text))


class ThingLinesTest(unittest.TestCase):
    def test_lines_of_things(self):
        things = [Thing.field("v", "s"), Thing.field("table", "field"), Thing.table("t")]
        things += [Thing.table("t", *"dcba"[:many]) for many in range(1, 5)]
        things += [getattr(Thing, kind)("x") for kind in ["feed", "dice", "source", "flag", "slot"]]
        for thing in things:
            self.assertEqual(read_thing(str(thing)), thing)
            self.assertIsInstance(read_thing(str(thing)).parts, tuple)

    def test_strings_that_are_no_lines(self):
        bads = [
            "", " ", "feed", "feed ", "feed  f", " feed f", "feed f ", "feed f g", "feed F", "feed f\n", "feeds f",
            "Feed f", "dice", "dice d e", "source s t", "flag l m", "slot n m", "slot abcdefghi", "field", "field v",
            "field v s t", "field v ", "field v S", "field  v s", "table", "table ", "table t ", "table t a ",
            "table t  a", "table t A",
            "table t a a", "table t a b a", "table t a b c d e", "table t a b c d a", "table T a", "table t abcdefghi",
            "take f", "part main", "thing x", "f", "table t a,b", "table t a\nb", "\n", "1 f",
        ]
        for line in bads:
            self.assertIsNone(read_thing(line), line)
