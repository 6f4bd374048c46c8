"""Objects that are no deeds, and deeds that do not fit the world [2, 6]."""

import unittest

from quietprobes.errors import BadDeed, NoKey, NoThing
from quietprobes.things import Thing
from quietprobes.worlds import World, watched
from tests.samples import NO_NAMES, ODD_OBJECTS, after, same

DEEDS = [
    ("take", "f"), ("skip", "f"), ("drain", "f"), ("fetch", "f", 1), ("bind", "f", "g"), ("roll", "d"), ("seed", "d"),
    ("get", "t", "a"), ("peek", "t", "a"), ("has", "t", "a"), ("put", "t", "a"), ("fill", "t", "a"), ("drop", "t", "a"),
    ("size", "t"), ("keys", "t"), ("load", "t", ("a",)), ("wipe", "t"), ("change", "s"), ("look", "v"), ("glance", "v"),
    ("renew", "v"), ("lift", "l"), ("read", "l"), ("watch", "l"), ("keep", "n"), ("copy", "n", "m"), ("tell", "n"),
    ("bound", "n"), ("mark", "n", "p"), ("spy", "f"),
]
KEYED = ["get", "peek", "has", "put", "fill", "drop"]
# The things of make_world; a slot m is in none of them, so ("copy", "n", "m") is refused there for m.
KINDS = {"f": "feed", "g": "feed", "d": "dice", "t": "table", "s": "source", "v": "field", "l": "flag", "n": "slot"}


def make_world():
    """A world in which something was done."""
    return after(("fetch", "f", 3), ("take", "f"), ("put", "t", "b"), ("keep", "n"), ("seed", "d"))


class Refusing(unittest.TestCase):
    def assert_refused(self, deed, error, attribute, value):
        world = make_world()
        with self.assertRaises(error) as caught:
            world.do(deed)
        self.assertTrue(same(getattr(caught.exception, attribute), value), deed)
        self.assertEqual(world, make_world())
        seen = []

        def try_it(same_world):
            with self.assertRaises(error):
                same_world.do(deed)
            seen.append(same_world.is_watched)

        self.assertEqual(watched(world, try_it), ([], []))
        self.assertEqual(seen, [True])


class BadDeedTest(Refusing):
    def assert_bad(self, deed):
        self.assert_refused(deed, BadDeed, "deed", deed)

    def test_all_deeds_are_known(self):
        self.assertEqual(len(DEEDS), 30)
        world = World(
            Thing.feed("f"), Thing.feed("g"), Thing.dice("d"), Thing.table("t", "a", "b"), Thing.flag("l"),
            Thing.slot("n"), Thing.slot("m"))
        fields = World(Thing.source("s"), Thing.field("v", "s"))
        for deed in DEEDS:
            (fields if deed[1] in fields else world).do(deed)

    def test_any_objects(self):
        for thing in [*ODD_OBJECTS, *NO_NAMES, "take", ("take",), ("f",), ("f", "take"), World(), Thing.feed("f")]:
            with self.subTest(thing=thing):
                with self.assertRaises(BadDeed) as caught:
                    make_world().do(thing)
                self.assertIs(caught.exception.deed, thing)

    def test_lists(self):
        for deed in DEEDS:
            self.assert_bad(list(deed))
            self.assert_bad((deed,))
            self.assert_bad((list(deed[:1]), *deed[1:]))
            self.assert_bad((deed[0], [deed[1]], *deed[2:]))
            self.assert_bad((deed[0], (deed[1],), *deed[2:]))

    def test_words(self):
        for bad in [*NO_NAMES, "", "takes", "Take", "take ", "say", "stop", "ask", "call", "probe", "feed", "do"]:
            self.assert_bad((bad, "f"))
        for bad in [True, 1, None, [], (), ["get"], ("get",)]:
            self.assert_bad((bad, "t", "a"))

    def test_parts_too_few_and_too_many(self):
        for deed in DEEDS:
            self.assert_bad(deed[:-1])
            self.assert_bad(deed[:1])
            for more in ["a", "f", 1, None, (), [], ("a",)]:
                self.assert_bad((*deed, more))
            self.assert_bad((*deed, "a", "a"))

    def test_names_that_are_no_names(self):
        for deed in DEEDS:
            for bad in NO_NAMES:
                self.assert_bad((deed[0], bad, *deed[2:]))

    def test_second_names_that_are_no_names(self):
        for bad in NO_NAMES:
            self.assert_bad(("bind", "f", bad))
            self.assert_bad(("copy", "n", bad))
            self.assert_bad(("mark", "n", bad))
            for word in KEYED:
                self.assert_bad((word, "t", bad))

    def test_lengths(self):
        for bad in [-1, -10 ** 39, 10 ** 30 + 1, 10 ** 39, True, False, None, "1", "a", (1,), [1], (), []]:
            self.assert_bad(("fetch", "f", bad))

    def test_loads(self):
        for bad in [[], ["a"], "a", "ab", None, True, 1, "", (["a"],), (("a",),), ("a", []), ("a", None, "b")]:
            self.assert_bad(("load", "t", bad))
        for bad in NO_NAMES:
            self.assert_bad(("load", "t", (bad,)))
            self.assert_bad(("load", "t", ("a", bad, "b")))
            self.assert_bad(("load", "t", ("a", "b", bad)))

    def test_no_deed_comes_ahead_of_no_thing(self):
        self.assert_bad(("take", "x", "y"))
        self.assert_bad(("get", "x", ""))
        self.assert_bad(("fetch", "x", -1))
        self.assert_bad(("load", "x", ["a"]))
        self.assert_bad(("bind", "x", 1))
        self.assert_bad(("mark", "x", None))


class NoThingTest(Refusing):
    def assert_no_thing(self, deed, name):
        self.assert_refused(deed, NoThing, "name", name)

    def test_strange_names(self):
        for deed in DEEDS:
            for name in ["x", "a", "b", "take", "feed", "abcdefgh"]:
                self.assert_no_thing((deed[0], name, *deed[2:]), name)

    def test_things_of_other_kinds(self):
        for deed in DEEDS:
            for name in KINDS:
                if deed[0] != "spy" and KINDS[name] != KINDS[deed[1]]:
                    self.assert_no_thing((deed[0], name, *deed[2:]), name)

    def test_second_names(self):
        for name in ["x", "d", "t", "s", "v", "l", "n"]:
            self.assert_no_thing(("bind", "f", name), name)
        for name in ["x", "d", "t", "s", "v", "l", "f"]:
            self.assert_no_thing(("copy", "n", name), name)

    def test_first_name_ahead_of_the_second(self):
        self.assert_no_thing(("bind", "x", "y"), "x")
        self.assert_no_thing(("bind", "n", "d"), "n")
        self.assert_no_thing(("bind", "n", "f"), "n")
        self.assert_no_thing(("copy", "x", "y"), "x")
        self.assert_no_thing(("copy", "f", "g"), "f")
        self.assert_no_thing(("copy", "f", "n"), "f")

    def test_no_thing_ahead_of_no_key(self):
        for word in KEYED:
            self.assert_no_thing((word, "x", "y"), "x")
            self.assert_no_thing((word, "f", "a"), "f")

    def test_marks_and_loads_name_no_things(self):
        world = make_world()
        self.assertIsNone(world.do(("mark", "n", "x")))
        self.assertIsNone(world.do(("load", "t", ("x", "f", "d"))))
        self.assertEqual((world["n"], world["t"]), ("x", ()))


class NoKeyTest(Refusing):
    def test_strange_keys(self):
        for word in KEYED:
            for key in ["c", "t", "f", "get", "abcdefgh"]:
                self.assert_refused((word, "t", key), NoKey, "key", key)

    def test_keys_of_another_table(self):
        world = World(Thing.table("t", "a"), Thing.table("u", "b"), Thing.table("w"))
        for word in KEYED:
            for table, key in [("t", "b"), ("u", "a"), ("w", "a"), ("w", "w")]:
                with self.assertRaises(NoKey) as caught:
                    world.do((word, table, key))
                self.assertEqual(caught.exception.key, key)
        self.assertEqual(world ^ World(*world.things), [])
