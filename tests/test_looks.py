"""Looks and their quiet twins [9]."""

import unittest

from quietprobes import looks
from quietprobes.looks import leaves_trace, quiet_twin, thing_of
from tests.samples import same

TRACES = {
    ("take", "x"): ("spy", "x"),
    ("drain", "x"): ("spy", "x"),
    ("roll", "x"): ("spy", "x"),
    ("get", "x", "k"): ("peek", "x", "k"),
    ("drop", "x", "k"): ("has", "x", "k"),
    ("look", "x"): ("glance", "x"),
    ("renew", "x"): ("glance", "x"),
    ("read", "x"): ("watch", "x"),
    ("mark", "x"): ("bound", "x"),
}
QUIET = [
    ("peek", "x", "k"), ("has", "x", "k"), ("size", "x"), ("keys", "x"), ("glance", "x"), ("watch", "x"),
    ("tell", "x"), ("bound", "x"), ("spy", "x"),
]


class LooksTest(unittest.TestCase):
    def test_there_are_eighteen(self):
        self.assertEqual(len([*TRACES, *QUIET]), 18)

    def test_leaves_trace(self):
        for look in TRACES:
            self.assertIs(leaves_trace(look), True)
        for look in QUIET:
            self.assertIs(leaves_trace(look), False)

    def test_quiet_twin(self):
        for look, twin in TRACES.items():
            self.assertTrue(same(quiet_twin(look), twin), look)
        for look in QUIET:
            self.assertTrue(same(quiet_twin(look), look), look)

    def test_a_twin_is_its_own_twin_and_leaves_no_trace(self):
        for look in [*TRACES, *QUIET]:
            twin = quiet_twin(look)
            self.assertEqual(quiet_twin(twin), twin)
            self.assertIs(leaves_trace(twin), False)

    def test_thing_of(self):
        for look in [*TRACES, *QUIET]:
            self.assertEqual(thing_of(look), "x")
            self.assertEqual(thing_of(quiet_twin(look)), "x")

    def test_names_that_are_words_too(self):
        self.assertEqual(quiet_twin(("get", "take", "drop")), ("peek", "take", "drop"))
        self.assertIs(leaves_trace(("has", "take", "drop")), False)
        self.assertEqual(thing_of(("has", "take", "drop")), "take")

    def test_arguments_by_name(self):
        self.assertIs(leaves_trace(look=("take", "f")), True)
        self.assertEqual(quiet_twin(look=("take", "f")), ("spy", "f"))
        self.assertEqual(thing_of(look=("take", "f")), "f")

    def test_functions_are_defined_here(self):
        for function in [leaves_trace, quiet_twin, thing_of]:
            self.assertEqual(function.__module__, looks.__name__)
