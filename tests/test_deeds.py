"""Each deed: what it returns, and the contents behind it [5, 6]."""

import random
import unittest

from quietprobes.things import Thing
from quietprobes.worlds import World
from tests.model import ModelWorld
from tests.samples import NAMES, one_of_each, same

HUGE = 10 ** 30


class DeedsTest(unittest.TestCase):
    def setUp(self):
        self.world = one_of_each()

    def does(self, deed, answer, **contents):
        """A deed returns the answer, and then the things named have these contents, all others those before."""
        wanted = {thing.name: self.world[thing.name] for thing in self.world.things}
        wanted.update(contents)
        self.assertTrue(same(self.world.do(deed), answer), deed)
        for name, content in wanted.items():
            self.assertTrue(same(self.world[name], content), (deed, name, self.world[name]))


class FeedsTest(DeedsTest):
    def test_take(self):
        self.does(("take", "f"), None)
        self.does(("fetch", "f", 2), None, f=(1, 0, 2))
        self.does(("take", "f"), (1, 0), f=(1, 1, 2))
        self.does(("take", "f"), (1, 1), f=(1, 2, 2))
        self.does(("take", "f"), None)
        self.does(("take", "f"), None)

    def test_skip(self):
        self.does(("skip", "f"), None)
        self.does(("fetch", "f", 2), None, f=(1, 0, 2))
        self.does(("skip", "f"), None, f=(1, 1, 2))
        self.does(("take", "f"), (1, 1), f=(1, 2, 2))
        self.does(("skip", "f"), None)

    def test_drain(self):
        self.does(("drain", "f"), None)
        self.does(("fetch", "f", 3), None, f=(1, 0, 3))
        self.does(("take", "f"), (1, 0), f=(1, 1, 3))
        self.does(("drain", "f"), None, f=(1, 3, 3))
        self.does(("take", "f"), None)
        self.does(("drain", "f"), None)

    def test_fetch_of_no_items(self):
        self.does(("fetch", "f", 0), None, f=(1, 0, 0))
        self.does(("take", "f"), None)
        self.does(("skip", "f"), None)
        self.does(("drain", "f"), None)

    def test_huge_rows(self):
        self.does(("fetch", "f", HUGE), None, f=(1, 0, HUGE))
        self.does(("take", "f"), (1, 0), f=(1, 1, HUGE))
        self.does(("skip", "f"), None, f=(1, 2, HUGE))
        self.does(("drain", "f"), None, f=(1, HUGE, HUGE))
        self.does(("take", "f"), None)

    def test_fetchings_are_counted_over_all_feeds(self):
        self.does(("fetch", "g", 1), None, g=(1, 0, 1))
        self.does(("fetch", "f", 1), None, f=(2, 0, 1))
        self.does(("fetch", "g", 2), None, g=(3, 0, 2))
        self.does(("take", "f"), (2, 0), f=(2, 1, 1))
        self.does(("take", "g"), (3, 0), g=(3, 1, 2))

    def test_bound_to_the_same_row(self):
        self.does(("fetch", "f", 4), None, f=(1, 0, 4))
        self.does(("bind", "g", "f"), None, g=(1, 0, 4))
        self.does(("take", "g"), (1, 0), f=(1, 1, 4), g=(1, 1, 4))
        self.does(("skip", "f"), None, f=(1, 2, 4), g=(1, 2, 4))
        self.does(("fetch", "f", 1), None, f=(2, 0, 1))
        self.does(("drain", "g"), None, g=(1, 4, 4))
        self.does(("bind", "f", "g"), None, f=(1, 4, 4))
        self.does(("take", "f"), None)

    def test_bind_to_the_row_and_not_to_the_feed(self):
        self.does(("fetch", "f", 2), None, f=(1, 0, 2))
        self.does(("bind", "g", "f"), None, g=(1, 0, 2))
        self.does(("fetch", "f", 1), None, f=(2, 0, 1))
        self.does(("take", "g"), (1, 0), g=(1, 1, 2))
        self.does(("take", "f"), (2, 0), f=(2, 1, 1))

    def test_bind_to_itself(self):
        self.does(("bind", "f", "f"), None)
        self.does(("fetch", "f", 2), None, f=(1, 0, 2))
        self.does(("take", "f"), (1, 0), f=(1, 1, 2))
        self.does(("bind", "f", "f"), None)
        self.does(("take", "f"), (1, 1), f=(1, 2, 2))

    def test_bind_to_a_row_that_was_never_fetched(self):
        self.does(("fetch", "f", 2), None, f=(1, 0, 2))
        self.does(("bind", "f", "g"), None, f=(0, 0, 0))
        self.does(("take", "f"), None)
        self.does(("fetch", "g", 1), None, g=(2, 0, 1))
        self.does(("take", "f"), None)

    def test_three_feeds(self):
        self.world = World(Thing.feed("f"), Thing.feed("g"), Thing.feed("h"))
        self.does(("fetch", "f", 3), None, f=(1, 0, 3))
        self.does(("fetch", "h", 3), None, h=(2, 0, 3))
        self.does(("bind", "g", "f"), None, g=(1, 0, 3))
        self.does(("take", "f"), (1, 0), f=(1, 1, 3), g=(1, 1, 3))
        self.does(("bind", "f", "h"), None, f=(2, 0, 3))
        self.does(("bind", "h", "g"), None, h=(1, 1, 3))
        self.does(("drain", "h"), None, g=(1, 3, 3), h=(1, 3, 3))


class DiceTest(DeedsTest):
    def setUp(self):
        self.world = World(Thing.dice("d"), Thing.dice("e"))

    def test_roll_and_seed(self):
        self.does(("roll", "d"), (0, 0), d=(0, 1))
        self.does(("roll", "e"), (0, 0), e=(0, 1))
        self.does(("roll", "d"), (0, 1), d=(0, 2))
        self.does(("seed", "d"), None, d=(1, 0))
        self.does(("roll", "d"), (1, 0), d=(1, 1))
        self.does(("seed", "e"), None, e=(2, 0))
        self.does(("seed", "d"), None, d=(3, 0))
        self.does(("roll", "e"), (2, 0), e=(2, 1))


class TablesTest(DeedsTest):
    def setUp(self):
        self.world = World(Thing.table("t", "a", "b", "c"), Thing.table("u", "a"), Thing.slot("n"))

    def test_get(self):
        self.does(("get", "t", "b"), 0, t=(("b", 0),))
        self.does(("get", "t", "a"), 0, t=(("b", 0), ("a", 0)))
        self.does(("put", "t", "b"), None, t=(("b", 1), ("a", 0)))
        self.does(("get", "t", "b"), 1)
        self.does(("get", "t", "a"), 0)

    def test_peek(self):
        self.does(("peek", "t", "a"), None)
        self.does(("get", "t", "a"), 0, t=(("a", 0),))
        self.does(("peek", "t", "a"), 0)
        self.does(("peek", "t", "b"), None)
        self.does(("put", "t", "a"), None, t=(("a", 1),))
        self.does(("peek", "t", "a"), 1)

    def test_has(self):
        self.does(("has", "t", "a"), False)
        self.does(("get", "t", "a"), 0, t=(("a", 0),))
        self.does(("has", "t", "a"), True)
        self.does(("has", "t", "b"), False)
        self.does(("has", "u", "a"), False)

    def test_put(self):
        self.does(("put", "t", "b"), None, t=(("b", 1),))
        self.does(("put", "t", "a"), None, t=(("b", 1), ("a", 2)))
        self.does(("put", "t", "b"), None, t=(("b", 3), ("a", 2)))

    def test_fill(self):
        self.does(("fill", "t", "b"), None, t=(("b", 1),))
        self.does(("fill", "t", "b"), None)
        self.does(("fill", "t", "a"), None, t=(("b", 1), ("a", 3)))
        self.does(("get", "t", "c"), 0, t=(("b", 1), ("a", 3), ("c", 0)))
        self.does(("fill", "t", "c"), None)
        self.does(("keep", "n"), None, n=5)

    def test_drop_and_put_again(self):
        for key in "abc":
            self.world.do(("put", "t", key))
        self.does(("drop", "t", "a"), None, t=(("b", 2), ("c", 3)))
        self.does(("drop", "t", "a"), None)
        self.does(("put", "t", "a"), None, t=(("b", 2), ("c", 3), ("a", 4)))
        self.does(("drop", "t", "c"), None, t=(("b", 2), ("a", 4)))
        self.does(("get", "t", "c"), 0, t=(("b", 2), ("a", 4), ("c", 0)))

    def test_size_and_keys(self):
        self.does(("size", "t"), 0)
        self.does(("keys", "t"), ())
        self.does(("get", "t", "c"), 0, t=(("c", 0),))
        self.does(("size", "t"), 1)
        self.does(("keys", "t"), ("c",))
        self.does(("put", "t", "a"), None, t=(("c", 0), ("a", 1)))
        self.does(("size", "t"), 2)
        self.does(("keys", "t"), ("c", "a"))
        self.does(("drop", "t", "c"), None, t=(("a", 1),))
        self.does(("size", "t"), 1)
        self.does(("keys", "t"), ("a",))

    def test_load(self):
        self.does(("put", "t", "b"), None, t=(("b", 1),))
        self.does(("load", "t", ("c", "a")), None, t=(("a", 2), ("c", 3)))
        self.does(("load", "t", ("c", "strange", "c", "n", "t", "b", "c")), None, t=(("b", 4), ("c", 5)))
        self.does(("load", "t", ("x", "a", "a")), None, t=(("a", 6),))
        self.does(("load", "t", ("x", "y")), None, t=())
        self.does(("load", "u", ("a", "b")), None, u=(("a", 7),))
        self.does(("load", "t", ("a", "b", "c")), None, t=(("a", 8), ("b", 9), ("c", 10)))
        self.does(("load", "t", ()), None, t=())
        self.does(("load", "t", ("x",) * 200 + ("b",) * 200), None, t=(("b", 11),))

    def test_wipe(self):
        self.does(("wipe", "t"), None)
        self.does(("load", "t", ("a", "b")), None, t=(("a", 1), ("b", 2)))
        self.does(("get", "u", "a"), 0, u=(("a", 0),))
        self.does(("wipe", "t"), None, t=())
        self.does(("keep", "n"), None, n=3)

    def test_a_table_without_keys(self):
        self.world = World(Thing.table("t"))
        self.does(("size", "t"), 0)
        self.does(("keys", "t"), ())
        self.does(("load", "t", ("t", "a")), None)
        self.does(("wipe", "t"), None)

    def test_a_key_with_the_name_of_the_table(self):
        self.world = World(Thing.table("t", "t"))
        self.does(("put", "t", "t"), None, t=(("t", 1),))
        self.does(("load", "t", ("t",)), None, t=(("t", 2),))


class FieldsTest(DeedsTest):
    def setUp(self):
        self.world = World(
            Thing.source("s"), Thing.source("r"), Thing.field("u", "s"), Thing.field("v", "u"), Thing.field("w", "v"),
            Thing.field("x", "r"))

    def test_change(self):
        self.does(("change", "s"), None, s=1)
        self.does(("change", "r"), None, r=2)
        self.does(("change", "s"), None, s=3)

    def test_look_is_kept(self):
        self.does(("look", "u"), 0, u=0)
        self.does(("change", "s"), None, s=1)
        self.does(("look", "u"), 0)
        self.does(("renew", "u"), None, u=None)
        self.does(("look", "u"), 1, u=1)
        self.does(("look", "x"), 0, x=0)

    def test_look_through_all_fields(self):
        self.does(("change", "s"), None, s=1)
        self.does(("look", "w"), 1, u=1, v=1, w=1)

    def test_look_through_fields_of_which_some_are_full(self):
        self.does(("look", "u"), 0, u=0)
        self.does(("change", "s"), None, s=1)
        self.does(("look", "w"), 0, v=0, w=0)
        self.does(("renew", "u"), None, u=None)
        self.does(("look", "w"), 0)
        self.does(("renew", "w"), None, w=None)
        self.does(("look", "w"), 0, w=0)
        self.does(("renew", "v"), None, v=None)
        self.does(("look", "v"), 1, u=1, v=1)

    def test_renew_of_one_field(self):
        self.does(("renew", "v"), None)
        self.does(("look", "w"), 0, u=0, v=0, w=0)
        self.does(("renew", "v"), None, v=None)
        self.does(("glance", "w"), 0)
        self.does(("glance", "u"), 0)

    def test_glance(self):
        self.does(("glance", "w"), None)
        self.does(("look", "u"), 0, u=0)
        self.does(("glance", "w"), None)
        self.does(("glance", "u"), 0)
        self.does(("change", "r"), None, r=1)
        self.does(("look", "x"), 1, x=1)
        self.does(("glance", "x"), 1)


class FlagsTest(DeedsTest):
    def test_lift_read_and_watch(self):
        self.does(("watch", "l"), False)
        self.does(("read", "l"), False)
        self.does(("lift", "l"), None, l=True)
        self.does(("watch", "l"), True)
        self.does(("lift", "l"), None)
        self.does(("read", "l"), True, l=False)
        self.does(("read", "l"), False)


class SlotsTest(DeedsTest):
    def setUp(self):
        self.world = World(Thing.slot("n"), Thing.slot("m"))

    def test_keep_and_tell(self):
        self.does(("tell", "n"), None)
        self.does(("bound", "n"), False)
        self.does(("keep", "n"), None, n=1)
        self.does(("tell", "n"), 1)
        self.does(("bound", "n"), True)
        self.does(("bound", "m"), False)
        self.does(("keep", "n"), None, n=2)

    def test_copy(self):
        self.does(("keep", "m"), None, m=1)
        self.does(("copy", "n", "m"), None, n=1)
        self.does(("keep", "m"), None, m=2)
        self.does(("tell", "n"), 1)
        self.does(("mark", "m", "p"), None, m="p")
        self.does(("copy", "n", "m"), None, n="p")

    def test_copy_of_an_unbound_slot(self):
        self.does(("keep", "n"), None, n=1)
        self.does(("copy", "n", "m"), None, n=None)
        self.does(("bound", "n"), False)
        self.does(("tell", "n"), None)

    def test_copy_to_itself(self):
        self.does(("copy", "n", "n"), None)
        self.does(("keep", "n"), None, n=1)
        self.does(("copy", "n", "n"), None)

    def test_mark_with_any_name(self):
        for name in [*NAMES, "n", "m", "none"]:
            self.does(("mark", "n", name), None, n=name)
            self.does(("bound", "n"), True)
            self.does(("tell", "n"), name)
        self.does(("keep", "n"), None, n=1)


class AnyThingTest(DeedsTest):
    def test_spy(self):
        for name in ["f", "g", "d", "t", "s", "v", "l", "n"]:
            self.does(("spy", name), None)
        for deed in [("fetch", "f", 1), ("get", "t", "a"), ("lift", "l"), ("keep", "n"), ("look", "v")]:
            self.world.do(deed)
        for name in ["f", "g", "d", "t", "s", "v", "l", "n"]:
            self.does(("spy", name), None)

    def test_serials_are_counted_over_the_whole_world(self):
        self.does(("change", "s"), None, s=1)
        self.does(("put", "t", "a"), None, t=(("a", 2),))
        self.does(("fill", "t", "a"), None)
        self.does(("keep", "n"), None, n=4)
        self.does(("load", "t", ("b", "a")), None, t=(("a", 5), ("b", 6)))
        self.does(("fetch", "f", 1), None, f=(1, 0, 1))
        self.does(("seed", "d"), None, d=(1, 0))
        self.does(("mark", "n", "p"), None, n="p")
        self.does(("drop", "t", "a"), None, t=(("b", 6),))
        self.does(("get", "t", "a"), 0, t=(("b", 6), ("a", 0)))
        self.does(("change", "s"), None, s=7)

    def test_words_that_are_names_too(self):
        self.world = World(Thing.feed("take"), Thing.table("get", "put"), Thing.slot("mark"))
        self.does(("take", "take"), None)
        self.does(("put", "get", "put"), None, get=(("put", 1),))
        self.does(("mark", "mark", "mark"), None, mark="mark")

    def test_deed_by_name(self):
        self.assertIs(self.world.do(deed=("has", "t", "a")), False)

    def test_equal_arguments_give_equal_worlds(self):
        deeds = [("fetch", "f", 2), ("take", "f"), ("load", "t", ("a", "b")), ("look", "v"), ("seed", "d")]
        other = one_of_each()
        for deed in deeds:
            self.assertEqual(self.world.do(deed), other.do(deed))
        self.assertEqual(self.world, other)


class ModelTest(unittest.TestCase):
    """Long rows of deeds do the same in a world and in the model of it."""

    THINGS = [
        (Thing.feed("f"), Thing.feed("g"), Thing.feed("h"), Thing.dice("d"), Thing.dice("e"), Thing.slot("n"),
         Thing.slot("m"), Thing.flag("l")),
        (Thing.table("t", "a", "b", "c", "d"), Thing.table("u", "b", "a"), Thing.source("s"), Thing.field("v", "s"),
         Thing.field("w", "v"), Thing.field("x", "v"), Thing.source("r"), Thing.slot("n")),
    ]
    WORDS = {
        "feed": ["take", "skip", "drain", "fetch", "bind", "spy"],
        "dice": ["roll", "seed", "spy"],
        "table": ["get", "peek", "has", "put", "fill", "drop", "size", "keys", "load", "wipe", "spy"],
        "source": ["change", "spy"],
        "field": ["look", "glance", "renew", "spy"],
        "flag": ["lift", "read", "watch", "spy"],
        "slot": ["keep", "copy", "tell", "bound", "mark", "spy"],
    }

    def some_deed(self, chance, things):
        thing = chance.choice(things)
        word = chance.choice(self.WORDS[thing.kind])
        if word == "fetch":
            return word, thing.name, chance.choice([0, 1, 2, 3, HUGE])
        if word in ("bind", "copy"):
            return word, thing.name, chance.choice([other.name for other in things if other.kind == thing.kind])
        if word in ("get", "peek", "has", "put", "fill", "drop"):
            return word, thing.name, chance.choice(thing.parts)
        if word == "load":
            return word, thing.name, tuple(chance.choice("abcdz") for _ in range(chance.randrange(6)))
        if word == "mark":
            return word, thing.name, chance.choice(NAMES)
        return word, thing.name

    def test_random_deeds(self):
        chance = random.Random(7)
        for turn in range(200):
            things = self.THINGS[turn // 100]
            world, model = World(*things), ModelWorld(*things)
            for _ in range(50):
                deed = self.some_deed(chance, things)
                self.assertTrue(same(world.do(deed), model.do(deed)), deed)
                for thing in things:
                    self.assertTrue(same(world[thing.name], model.content(thing.name)), (deed, thing.name))
