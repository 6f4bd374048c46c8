"""Things, their names and their lines [2, 4, 13]."""

import unittest

from quietprobes.errors import BadName, TooMany, Twice
from quietprobes.things import Thing
from tests.samples import NAMES, NO_NAMES, ODD_OBJECTS, same

PLAIN = ["feed", "dice", "source", "flag", "slot"]


def all_unlike():
    """One thing of each kind, and some that differ in one attribute from another one."""
    return [
        Thing.feed("f"), Thing.dice("f"), Thing.source("f"), Thing.flag("f"), Thing.slot("f"), Thing.table("f"),
        Thing.feed("g"), Thing.table("f", "a"), Thing.table("f", "b"), Thing.table("f", "a", "b"),
        Thing.table("f", "b", "a"), Thing.field("f", "a"), Thing.field("f", "b"), Thing.field("g", "a"),
    ]


class MadeTest(unittest.TestCase):
    def assert_thing(self, thing, kind, name, parts):
        self.assertTrue(same((thing.kind, thing.name, thing.parts), (kind, name, parts)))

    def test_plain_things(self):
        for kind in PLAIN:
            for name in NAMES:
                with self.subTest(kind=kind, name=name):
                    self.assert_thing(getattr(Thing, kind)(name), kind, name, ())
                    self.assert_thing(getattr(Thing, kind)(name=name), kind, name, ())

    def test_fields(self):
        self.assert_thing(Thing.field("v", "s"), "field", "v", ("s",))
        self.assert_thing(Thing.field(over="s", name="v"), "field", "v", ("s",))
        self.assert_thing(Thing.field("v", "v"), "field", "v", ("v",))

    def test_tables(self):
        self.assert_thing(Thing.table("t"), "table", "t", ())
        self.assert_thing(Thing.table(name="t"), "table", "t", ())
        self.assert_thing(Thing.table("t", "b", "a"), "table", "t", ("b", "a"))
        self.assert_thing(Thing.table("t", "d", "c", "b", "a"), "table", "t", ("d", "c", "b", "a"))

    def test_a_key_may_have_the_name_of_the_table(self):
        self.assert_thing(Thing.table("t", "a", "t"), "table", "t", ("a", "t"))

    def test_kinds(self):
        self.assertTrue(same(Thing.KINDS, ("feed", "dice", "table", "source", "field", "flag", "slot")))
        self.assertEqual(Thing.feed("f").KINDS, Thing.KINDS)

    def test_methods_are_static_and_its_own(self):
        for name in [*PLAIN, "field", "table"]:
            self.assertIsInstance(vars(Thing)[name], staticmethod)
        self.assertIn("__eq__", vars(Thing))
        self.assertIn("__str__", vars(Thing))
        self.assertEqual(Thing.__module__, "quietprobes.things")


class RefusedTest(unittest.TestCase):
    def assert_bad(self, bad, make, *args):
        with self.assertRaises(BadName) as caught:
            make(*args)
        self.assertTrue(same(caught.exception.name, bad))

    def test_no_names(self):
        for bad in NO_NAMES:
            with self.subTest(bad=bad):
                for kind in [*PLAIN, "table"]:
                    self.assert_bad(bad, getattr(Thing, kind), bad)
                self.assert_bad(bad, Thing.field, bad, "s")
                self.assert_bad(bad, Thing.field, "v", bad)
                self.assert_bad(bad, Thing.table, bad, "a")
                self.assert_bad(bad, Thing.table, "t", bad)
                self.assert_bad(bad, Thing.table, "t", "a", "b", "c", bad)

    def test_first_object_that_is_no_name(self):
        for first, second in [("", "A"), ("A", ""), (True, 1), (1, True), ([], ()), (None, "a b")]:
            self.assert_bad(first, Thing.field, first, second)
            self.assert_bad(first, Thing.table, first, second)
            self.assert_bad(first, Thing.table, first, "a", second)
            self.assert_bad(first, Thing.table, "t", "a", first, "b", second)

    def test_names_ahead_of_the_rest(self):
        self.assert_bad("A", Thing.table, "t", "a", "a", "A")
        self.assert_bad("", Thing.table, "", "a", "a")
        self.assert_bad([], Thing.table, "t", "a", "a", "b", "c", [])
        self.assert_bad([], Thing.table, "t", "a", "b", "c", "d", "e", [])
        self.assert_bad([], Thing.table, "t", [], [])

    def test_key_that_is_there_twice(self):
        for twice, keys in [("a", "aa"), ("a", "aba"), ("b", "abba"), ("c", "dccd"), ("a", "abcda"), ("e", "abcdee")]:
            with self.subTest(keys=keys), self.assertRaises(Twice) as caught:
                Thing.table("t", *keys)
            self.assertEqual(caught.exception.name, twice)

    def test_too_many_keys(self):
        for keys in ["abcde", "abcdef", "abcdefghijklmnopqrstuvwxyz"]:
            with self.subTest(keys=keys), self.assertRaises(TooMany) as caught:
                Thing.table("t", *keys)
            self.assertEqual(caught.exception.limit, 4)


class ComparedTest(unittest.TestCase):
    def test_equal_only_with_equal_attributes(self):
        for at, thing in enumerate(all_unlike()):
            for place, other in enumerate(all_unlike()):
                with self.subTest(thing=str(thing), other=str(other)):
                    self.assertIs(thing == other, at == place)
                    self.assertIs(thing != other, at != place)

    def test_equal_to_nothing_of_another_class(self):
        thing = Thing.feed("f")
        for other in [*ODD_OBJECTS, "feed f", ("feed", "f", ()), "f", Thing, BadName("f")]:
            self.assertFalse(thing == other)
            self.assertFalse(other == thing)
            self.assertTrue(thing != other)

    def test_lines(self):
        for kind in PLAIN:
            self.assertEqual(str(getattr(Thing, kind)("abc")), f"{kind} abc")
        self.assertEqual(str(Thing.field("v", "s")), "field v s")
        self.assertEqual(str(Thing.table("t", "a", "b")), "table t a b")
        self.assertEqual(str(Thing.table("t", "b", "a")), "table t b a")
        self.assertEqual(str(Thing.table("t")), "table t")
