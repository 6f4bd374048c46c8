"""Worlds: how they are made, asked and compared [7]."""

import unittest

from quietprobes import worlds
from quietprobes.errors import NoThing, TooMany, Twice
from quietprobes.things import Thing
from quietprobes.worlds import World, unseen, watched
from tests.samples import NO_NAMES, ODD_OBJECTS, after, one_of_each, same

AT_FIRST = {
    "f": (0, 0, 0), "g": (0, 0, 0), "d": (0, 0), "t": (), "s": 0, "v": None, "l": False, "n": None,
}


class MadeTest(unittest.TestCase):
    def assert_raises(self, error, attribute, value, *things):
        with self.assertRaises(error) as caught:
            World(*things)
        self.assertEqual(getattr(caught.exception, attribute), value)

    def test_contents_at_first(self):
        world = one_of_each()
        for name, content in AT_FIRST.items():
            self.assertTrue(same(world[name], content), name)
        self.assertIs(world.is_watched, False)

    def test_things(self):
        things = (Thing.flag("l"), Thing.slot("n"))
        self.assertIsInstance(World(*things).things, tuple)
        self.assertEqual(World(*things).things, things)

    def test_no_things(self):
        self.assertEqual(World().things, ())
        self.assertEqual(World(), World())
        self.assertEqual(World() ^ World(), [])
        self.assertNotIn("f", World())

    def test_eight_and_nine_things(self):
        things = [Thing.slot(name) for name in "abcdefghi"]
        self.assertEqual(len(World(*things[:8]).things), 8)
        self.assert_raises(TooMany, "limit", 8, *things)
        self.assert_raises(TooMany, "limit", 8, *things, Thing.slot("j"))

    def test_name_twice(self):
        self.assert_raises(Twice, "name", "f", Thing.feed("f"), Thing.feed("f"))
        self.assert_raises(Twice, "name", "f", Thing.feed("f"), Thing.slot("f"))
        self.assert_raises(Twice, "name", "g", *[Thing.feed(name) for name in "fggf"])
        self.assert_raises(Twice, "name", "s", Thing.source("s"), Thing.field("s", "s"))

    def test_fields_stand_behind_what_they_are_over(self):
        source, field, upper = Thing.source("s"), Thing.field("v", "s"), Thing.field("w", "v")
        World(source, field, upper)
        World(source, Thing.slot("n"), field, Thing.field("u", "s"), upper)
        self.assert_raises(NoThing, "name", "s", field, source)
        self.assert_raises(NoThing, "name", "v", source, upper, field)
        self.assert_raises(NoThing, "name", "v", source, Thing.field("v", "v"))
        self.assert_raises(NoThing, "name", "x", source, Thing.field("v", "x"))
        self.assert_raises(NoThing, "name", "x", source, Thing.field("v", "x"), Thing.field("w", "y"))

    def test_fields_over_things_of_other_kinds(self):
        for kind in ["feed", "dice", "table", "flag", "slot"]:
            self.assert_raises(NoThing, "name", "x", getattr(Thing, kind)("x"), Thing.field("v", "x"))

    def test_keys_are_not_the_names_of_things(self):
        self.assert_raises(NoThing, "name", "a", Thing.table("t", "a"), Thing.field("v", "a"))
        World(Thing.table("a", "a", "s"), Thing.source("s"))

    def test_order_of_the_errors(self):
        slots = [Thing.slot(name) for name in "abcdefgh"]
        self.assert_raises(Twice, "name", "a", Thing.field("v", "x"), *slots, Thing.slot("a"))
        self.assert_raises(NoThing, "name", "x", *slots, Thing.field("v", "x"))
        self.assert_raises(NoThing, "name", "x", Thing.field("v", "x"), *slots)

    def test_methods_are_its_own(self):
        for name in ["do", "__getitem__", "__contains__", "__xor__", "__eq__", "is_watched", "duplicate"]:
            self.assertIn(name, vars(World))
        for defined in [World, watched, unseen]:
            self.assertEqual(defined.__module__, worlds.__name__)
        self.assertIsInstance(vars(World)["is_watched"], property)


class AskedTest(unittest.TestCase):
    def test_any_object(self):
        world = World(Thing.table("t", "a"), Thing.slot("n"))
        for thing in [*NO_NAMES, *ODD_OBJECTS, "a", "x", "table", Thing.slot("n")]:
            with self.subTest(thing=thing):
                self.assertIs(thing in world, False)
                with self.assertRaises(NoThing) as caught:
                    world[thing]
                self.assertIs(caught.exception.name, thing)

    def test_names_of_things(self):
        world = one_of_each()
        for name in AT_FIRST:
            self.assertIs(name in world, True)


class ComparedTest(unittest.TestCase):
    def assert_equal(self, one, other, equal):
        self.assertIs(one == other, equal)
        self.assertIs(other == one, equal)
        self.assertIs(one != other, not equal)

    def test_equal_worlds(self):
        deeds = [("fetch", "f", 3), ("take", "f"), ("put", "t", "b"), ("get", "t", "a"), ("roll", "d"), ("lift", "l")]
        self.assert_equal(after(*deeds), after(*deeds), True)
        self.assert_equal(after(), after(("spy", "f"), ("tell", "n"), ("size", "t")), True)

    def test_other_contents(self):
        unlike = [
            after(), after(("fetch", "f", 0)), after(("fetch", "f", 1)), after(("fetch", "g", 1)),
            after(("fetch", "f", 1), ("take", "f")), after(("roll", "d")), after(("seed", "d")),
            after(("get", "t", "a")), after(("get", "t", "b")), after(("put", "t", "a")),
            after(("get", "t", "a"), ("get", "t", "b")), after(("get", "t", "b"), ("get", "t", "a")),
            after(("change", "s")), after(("look", "v")), after(("lift", "l")), after(("keep", "n")),
            after(("mark", "n", "p")), after(("mark", "n", "q")),
        ]
        for at, one in enumerate(unlike):
            for place, other in enumerate(unlike):
                self.assert_equal(one, other, at == place)

    def test_equal_contents_with_other_numbers(self):
        fetched = after(("fetch", "f", 2), ("bind", "f", "g"))
        used = after(("put", "t", "a"), ("wipe", "t"))
        for world in [fetched, used]:
            self.assertEqual(world ^ after(), [])
            self.assert_equal(world, after(), False)
        self.assert_equal(fetched, used, False)
        seeded = after(("seed", "d"), ("roll", "d"))
        again = after(("seed", "d"), ("seed", "d"), ("roll", "d"))
        self.assert_equal(seeded, again, False)

    def test_other_things(self):
        feeds = [Thing.feed("f"), Thing.feed("g")]
        self.assert_equal(World(*feeds), World(*feeds), True)
        self.assert_equal(World(*feeds), World(*reversed(feeds)), False)
        self.assert_equal(World(*feeds), World(feeds[0]), False)
        self.assert_equal(World(Thing.table("t")), World(Thing.table("t", "a")), False)
        sources = [Thing.source("s"), Thing.source("r")]
        self.assert_equal(World(*sources, Thing.field("v", "s")), World(*sources, Thing.field("v", "r")), False)
        self.assert_equal(World(Thing.slot("n")), World(Thing.slot("m")), False)
        self.assert_equal(World(Thing.slot("n")), World(Thing.flag("n")), False)

    def test_other_classes(self):
        for other in [*ODD_OBJECTS, Thing.slot("n"), World]:
            self.assert_equal(World(), other, False)
            self.assert_equal(one_of_each(), other, False)

    def test_watched_or_not(self):
        world = one_of_each()
        found = []
        watched(world, lambda same_world: found.append((same_world == one_of_each(), one_of_each() != same_world)))
        self.assertEqual(found, [(True, False)])

    def test_unlike_names(self):
        world = after(("fetch", "f", 2), ("bind", "g", "f"), ("take", "g"), ("lift", "l"), ("look", "v"))
        self.assertEqual(world ^ one_of_each(), ["f", "g", "v", "l"])
        self.assertEqual(one_of_each() ^ world, ["f", "g", "v", "l"])
        self.assertEqual(world ^ world, [])
        everything = after(
            ("fetch", "f", 1), ("fetch", "g", 1), ("roll", "d"), ("put", "t", "a"), ("change", "s"), ("look", "v"),
            ("lift", "l"), ("keep", "n"))
        self.assertEqual(everything ^ after(), list(AT_FIRST))
        self.assertEqual(after(("mark", "n", "p")) ^ after(("mark", "n", "q")), ["n"])

    def test_order_of_the_things(self):
        things = [Thing.slot(name) for name in "zay"]
        world = World(*things)
        for name in "yza":
            world.do(("keep", name))
        self.assertEqual(world ^ World(*things), ["z", "a", "y"])

    def test_nothing_is_changed_by_asking(self):
        world = after(("fetch", "f", 2), ("put", "t", "a"))
        twin = after(("fetch", "f", 2), ("put", "t", "a"))
        world["f"], "f" in world, world ^ twin, world == twin, world.is_watched, world.duplicate()
        self.assertEqual(world, twin)


class DuplicateTest(unittest.TestCase):
    def test_equal_and_of_its_own(self):
        deeds = [
            ("fetch", "f", 5), ("bind", "g", "f"), ("seed", "d"), ("put", "t", "a"), ("change", "s"), ("look", "v")]
        world = after(*deeds)
        twin = world.duplicate()
        self.assertIsInstance(twin, World)
        self.assertIsNot(twin, world)
        self.assertEqual(twin, world)
        self.assertEqual(twin.things, world.things)
        world.do(("take", "g"))
        self.assertEqual(twin, after(*deeds))
        self.assertEqual(twin["f"], (1, 0, 5))
        twin.do(("drain", "f"))
        twin.do(("wipe", "t"))
        self.assertEqual(world, after(*deeds, ("take", "g")))
        self.assertEqual((twin["g"], world["g"]), ((1, 5, 5), (1, 1, 5)))

    def test_numbers_go_on_in_both(self):
        world = after(("fetch", "f", 5), ("seed", "d"), ("put", "t", "a"))
        twin = world.duplicate()
        for each in [world, twin]:
            for deed in [("fetch", "g", 1), ("seed", "d"), ("keep", "n")]:
                each.do(deed)
            self.assertEqual((each["g"], each["d"], each["n"]), ((2, 0, 1), (2, 0), 2))
        self.assertEqual(world, twin)

    def test_many_duplicates(self):
        world = after(("keep", "n"))
        first = world.duplicate()
        world.do(("keep", "n"))
        second = world.duplicate()
        third = first.duplicate()
        self.assertEqual([each["n"] for each in [world, first, second, third]], [2, 1, 2, 1])

    def test_it_is_not_watched(self):
        twins = []

        def deed(world):
            twins.append(world.duplicate())
            twins[0].do(("lift", "l"))
            world.do(("keep", "n"))

        world = one_of_each()
        self.assertEqual(watched(world, deed), ([("keep", "n")], ["n"]))
        self.assertIs(twins[0].is_watched, False)
        self.assertEqual(twins[0], after(("lift", "l")))
