"""Which objects are rows and looks [9, 10, 11]."""

import unittest

from quietprobes import rows
from quietprobes.rows import deeds_of, is_look, is_probe, is_row, read_row, row_text
from tests.samples import NO_NAMES, ODD_OBJECTS

# For each word how many names stand behind it in a row and in a look; None if there is no such row or look.
WORDS = {
    "take": (1, 1), "skip": (1, None), "drain": (1, 1), "fetch": (1, None), "bind": (2, None), "roll": (1, 1),
    "seed": (1, None), "get": (2, 2), "peek": (2, 2), "has": (None, 2), "put": (2, None), "fill": (2, None),
    "drop": (2, 2), "size": (1, 1), "keys": (1, 1), "load": (1, None), "wipe": (1, None), "change": (1, None),
    "look": (1, 1), "glance": (1, 1), "renew": (1, 1), "lift": (1, None), "read": (1, 1), "watch": (1, 1),
    "keep": (1, None), "copy": (2, None), "tell": (1, 1), "bound": (None, 1), "mark": (None, 1), "spy": (None, 1),
    "say": (1, None), "stop": (0, None), "call": (1, None), "else": (0, None), "end": (0, None),
    "if": (None, None), "while": (None, None), "probe": (None, None), "assert": (None, None), "ask": (None, None),
    "part": (None, None), "feed": (None, None), "table": (None, None), "holds": (None, None), "x": (None, None),
}
IFS = {"ask": 1, "take": 1, "has": 2, "read": 1, "bound": 1}
WHILES = {"ask": 1, "take": 1}
TESTS = {"has": 2, "bound": 1, "read": 1, "watch": 1}
GATES = ["always", "first", "later", "second"]
NAMES = ["a", "seen", "take", "probe", "abcdefgh"]
LOOK = ("get", "t", "a")


def with_names(word, many):
    return (word, *NAMES[:many])


def rows_without_probes():
    found = [with_names(word, many) for word, (many, _) in WORDS.items() if many is not None]
    found += [("if", *with_names(word, many)) for word, many in IFS.items()]
    return found + [("while", *with_names(word, many)) for word, many in WHILES.items()]


def looks():
    return [with_names(word, many) for word, (_, many) in WORDS.items() if many is not None]


class RowsTest(unittest.TestCase):
    def test_how_many_there_are(self):
        self.assertEqual(len(rows_without_probes()), 26 + 5 + 7)
        self.assertEqual(len(looks()), 18)

    def test_rows_by_word_and_number_of_names(self):
        for word, (many, _) in WORDS.items():
            for number in range(5):
                with self.subTest(word=word, number=number):
                    self.assertIs(is_row(with_names(word, number)), number == many)

    def test_looks_by_word_and_number_of_names(self):
        for word, (_, many) in WORDS.items():
            for number in range(5):
                with self.subTest(word=word, number=number):
                    self.assertIs(is_look(with_names(word, number)), number == many)

    def test_tests_of_if_and_while(self):
        for word in WORDS:
            for number in range(5):
                with self.subTest(word=word, number=number):
                    self.assertIs(is_row(("if", *with_names(word, number))), IFS.get(word) == number)
                    self.assertIs(is_row(("while", *with_names(word, number))), WHILES.get(word) == number)
                    self.assertIs(is_look(("if", *with_names(word, number))), False)

    def test_some_that_are_one_and_not_the_other(self):
        for both in [("take", "f"), ("drain", "f"), ("peek", "t", "k"), ("renew", "v"), ("tell", "n")]:
            self.assertEqual((is_row(both), is_look(both)), (True, True))
        for row in [("skip", "f"), ("put", "t", "k"), ("change", "s"), ("say", "hi"), ("if", "has", "t", "k")]:
            self.assertEqual((is_row(row), is_look(row)), (True, False))
        for look in [("mark", "n"), ("has", "t", "k"), ("bound", "n"), ("spy", "f")]:
            self.assertEqual((is_row(look), is_look(look)), (False, True))

    def test_deeds_that_are_no_rows(self):
        for deed in [("fetch", "f", 1), ("load", "t", ("a",)), ("load", "t", ()), ("mark", "n", "p")]:
            self.assertEqual((is_row(deed), is_look(deed)), (False, False))

    def test_any_objects(self):
        for thing in [*ODD_OBJECTS, *NO_NAMES, "stop", "take f", ["stop"], (("stop",),), ("",), ("stop", ())]:
            with self.subTest(thing=thing):
                self.assertIs(is_row(thing), False)
                self.assertIs(is_look(thing), False)

    def test_lists_in_the_place_of_tuples_and_strings(self):
        for row in [*rows_without_probes(), *looks()]:
            for at in range(len(row)):
                for bad in [[row[at]], (row[at],), list(row)]:
                    self.assertIs(is_row((*row[:at], bad, *row[at + 1:])), False)
                    self.assertIs(is_look((*row[:at], bad, *row[at + 1:])), False)
            self.assertIs(is_row(list(row)), False)
            self.assertIs(is_look(list(row)), False)
            self.assertIs(is_row((row,)), False)
            self.assertIs(is_look((row,)), False)

    def test_parts_that_are_no_names(self):
        for row in [*rows_without_probes(), *looks()]:
            for at in range(len(row)):
                for bad in NO_NAMES:
                    self.assertIs(is_row((*row[:at], bad, *row[at + 1:])), False, (row, at, bad))
                    self.assertIs(is_look((*row[:at], bad, *row[at + 1:])), False, (row, at, bad))

    def test_one_part_too_many(self):
        for row in [*rows_without_probes(), *looks()]:
            for more in ["a", "end", 1, None, True, (), [], ("a",)]:
                self.assertIs(is_row((*row, more)), False)
                self.assertIs(is_look((*row, more)), False)

    def test_names_of_tables_and_keys_may_be_words(self):
        self.assertTrue(is_row(("get", "get", "get")))
        self.assertTrue(is_row(("if", "has", "if", "else")))
        self.assertTrue(is_look(("has", "take", "has")))
        self.assertTrue(is_row(("call", "part")))
        self.assertTrue(is_row(("say", "stop")))


class ProbesTest(unittest.TestCase):
    def assert_row(self, row):
        self.assertIs(is_row(row), True, row)
        self.assertIs(is_look(row), False, row)

    def assert_none(self, row):
        self.assertIs(is_row(row), False, row)

    def test_gates(self):
        for gate in GATES:
            self.assert_row(("probe", "p", gate, (), ()))
            self.assert_row(("assert", "p", gate, (), ("bound", "n")))
        for gate in [*NO_NAMES, "once", "Always", "on", "probe", "third", ["first"], ("first",)]:
            self.assert_none(("probe", "p", gate, (), ()))
            self.assert_none(("assert", "p", gate, (), ("bound", "n")))

    def test_each_look_in_args_and_body(self):
        for look in looks():
            self.assert_row(("probe", "p", "always", (look,), ()))
            self.assert_row(("probe", "p", "always", (), (look,)))
            self.assert_row(("assert", "p", "always", (look,), ("bound", "n")))

    def test_no_looks_in_args_and_body(self):
        for bad in [*rows_without_probes(), *ODD_OBJECTS, ["get", "t", "a"], ("mark", "n", "p"), ("get", ["t"], "a")]:
            if not is_look(bad):
                for looks_of_it in [(bad,), (LOOK, bad), (bad, LOOK), (LOOK, LOOK, bad)]:
                    self.assert_none(("probe", "p", "always", looks_of_it, ()))
                    self.assert_none(("probe", "p", "always", (), looks_of_it))
                    self.assert_none(("assert", "p", "always", looks_of_it, ("bound", "n")))

    def test_six_and_seven_looks_together(self):
        for args in range(9):
            for body in range(9):
                row = ("probe", "p", "always", (LOOK,) * args, (LOOK,) * body)
                self.assertIs(is_row(row), args + body <= 6, row)

    def test_six_and_seven_looks_in_args_of_an_assert(self):
        for args in range(9):
            self.assertIs(is_row(("assert", "p", "always", (LOOK,) * args, ("has", "t", "a"))), args <= 6)

    def test_tests_of_asserts(self):
        for word in WORDS:
            for number in range(5):
                test = with_names(word, number)
                self.assertIs(is_row(("assert", "p", "first", (), test)), TESTS.get(word) == number, test)
        bads = [("ask", "w"), ("take", "f"), ("peek", "t", "k"), ("if", "bound", "n"), (), "bound", ["bound", "n"],
                (("bound", "n"),), (("has", "t", "a"), ("bound", "n")), ("bound", ["n"]), ("bound", "N")]
        for bad in [*bads, *ODD_OBJECTS]:
            self.assert_none(("assert", "p", "first", (), bad))

    def test_a_body_is_no_test_and_a_test_no_body(self):
        self.assert_none(("probe", "p", "always", (), ("bound", "n")))
        self.assert_none(("probe", "p", "always", ("bound", "n"), ()))
        self.assert_none(("assert", "p", "always", ("bound", "n"), ("bound", "n")))
        self.assert_none(("assert", "p", "always", (), (("bound", "n"),)))

    def test_args_and_body_that_are_lists(self):
        for bad in [[], [LOOK], "", "get", None, True, 0]:
            self.assert_none(("probe", "p", "always", bad, ()))
            self.assert_none(("probe", "p", "always", (), bad))
            self.assert_none(("assert", "p", "always", bad, ("bound", "n")))
        self.assert_none(["probe", "p", "always", (), ()])
        self.assert_none((["probe"], "p", "always", (), ()))

    def test_names(self):
        for name in NAMES:
            self.assert_row(("probe", name, "always", (), ()))
            self.assert_row(("assert", name, "always", (), ("bound", "n")))
        for bad in NO_NAMES:
            self.assert_none(("probe", bad, "always", (), ()))
            self.assert_none(("assert", bad, "always", (), ("bound", "n")))

    def test_parts_too_few_and_too_many(self):
        for row in [("probe", "p", "always", (), ()), ("assert", "p", "always", (), ("bound", "n"))]:
            for many in range(5):
                self.assert_none(row[:many])
            self.assert_none((*row, ()))
            self.assert_none((*row, "always"))
            self.assert_none((*row[:3], *row[4:], *row[3:]))

    def test_is_probe(self):
        self.assertIs(is_probe(("probe", "p", "always", (), ())), True)
        self.assertIs(is_probe(("assert", "p", "always", (), ("bound", "n"))), True)
        for row in rows_without_probes():
            self.assertIs(is_probe(row), False)
        self.assertIs(is_probe(("say", "probe")), False)
        self.assertIs(is_probe(("call", "assert")), False)


class OthersTest(unittest.TestCase):
    def test_deeds_of(self):
        looks_there = (("mark", "n"), ("take", "f"))
        self.assertEqual(deeds_of(("probe", "p", "always", looks_there, (LOOK,))), (*looks_there, LOOK))
        self.assertEqual(deeds_of(("assert", "p", "always", (LOOK,), ("bound", "n"))), (LOOK, ("bound", "n")))
        self.assertEqual(deeds_of(("if", "has", "t", "a")), (("has", "t", "a"),))
        self.assertEqual(deeds_of(("while", "take", "f")), (("take", "f"),))
        self.assertEqual(deeds_of(("fetch", "f")), (("fetch", "f"),))
        for row in [("if", "ask", "w"), ("while", "ask", "w"), ("say", "take"), ("stop",), ("call", "p"), ("end",)]:
            self.assertEqual(deeds_of(row), ())

    def test_arguments_by_name(self):
        self.assertIs(is_look(row=LOOK), True)
        self.assertIs(is_row(row=("stop",)), True)
        self.assertIs(is_probe(row=("stop",)), False)
        self.assertEqual(row_text(row=("take", "f")), "take f")
        self.assertEqual(read_row(line="take f"), ("take", "f"))

    def test_functions_are_defined_here(self):
        for function in [is_look, is_row, is_probe, row_text, read_row]:
            self.assertEqual(function.__module__, rows.__name__)
