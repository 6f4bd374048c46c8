"""Worlds that are watched, and deeds that stay unseen [8]."""

import unittest

from quietprobes.errors import BadDeed, NoThing, Watched
from quietprobes.things import Thing
from quietprobes.worlds import World, unseen, watched
from tests.samples import after, one_of_each


class Trouble(Exception):
    pass


def doing(*deeds):
    """A function that does some deeds with a world, and returns what they return."""
    return lambda world: [world.do(deed) for deed in deeds]


class WatchedTest(unittest.TestCase):
    def test_deeds_and_changed_things(self):
        world = one_of_each()
        deeds = [("spy", "f"), ("keep", "n"), ("fetch", "g", 2), ("bind", "f", "g"), ("look", "v"), ("look", "v")]
        told = watched(world, doing(*deeds))
        self.assertIsInstance(told, tuple)
        self.assertEqual([*map(type, told)], [list, list])
        self.assertEqual(told, (deeds, ["f", "g", "v", "n"]))
        self.assertEqual(world, after(*deeds))

    def test_nothing_done(self):
        self.assertEqual(watched(one_of_each(), lambda world: None), ([], []))
        self.assertEqual(watched(World(), lambda world: 5), ([], []))

    def test_contents_that_are_as_before(self):
        deeds = [("lift", "l"), ("read", "l"), ("get", "t", "a"), ("drop", "t", "a"), ("look", "v"), ("renew", "v"),
                 ("mark", "n", "p"), ("copy", "n", "n"), ("fetch", "f", 1), ("bind", "f", "g"), ("roll", "d")]
        world = one_of_each()
        self.assertEqual(watched(world, doing(*deeds)), (deeds, ["d", "n"]))

    def test_contents_before_are_not_those_at_first(self):
        world = after(("lift", "l"), ("keep", "n"))
        self.assertEqual(watched(world, doing(("watch", "l"), ("lift", "l"), ("tell", "n")))[1], [])
        self.assertEqual(watched(world, doing(("read", "l")))[1], ["l"])

    def test_order_of_the_things(self):
        world = World(Thing.slot("z"), Thing.slot("a"), Thing.slot("y"))
        deeds = [("keep", "y"), ("keep", "a"), ("keep", "z")]
        self.assertEqual(watched(world, doing(*deeds)), (deeds, ["z", "a", "y"]))

    def test_the_world_itself(self):
        world, seen = one_of_each(), []
        watched(world, lambda same: seen.append(same is world))
        unseen(world, lambda same: seen.append(same is world))
        watched(world, lambda same: unseen(same, lambda again: seen.append(again is world)))
        self.assertEqual(seen, [True, True, True])

    def test_refused_deeds_are_left_out(self):
        def deed(world):
            for each in [("lift", "l"), ("lift", "x"), ["lift", "l"], ("get", "t", "x"), ("read", "l")]:
                try:
                    world.do(each)
                except ValueError:
                    pass

        self.assertEqual(watched(one_of_each(), deed), ([("lift", "l"), ("read", "l")], []))

    def test_deeds_on_the_outer_name_count(self):
        world = one_of_each()
        self.assertEqual(watched(world, lambda _: world.do(("lift", "l")))[0], [("lift", "l")])

    def test_deeds_of_other_worlds_do_not_count(self):
        world, other = one_of_each(), one_of_each()
        found = watched(world, lambda _: (other.do(("lift", "l")), watched(other, doing(("keep", "n")))))
        self.assertEqual(found, ([], []))
        self.assertEqual((world, other), (after(), after(("lift", "l"), ("keep", "n"))))

    def test_is_watched(self):
        world, seen = one_of_each(), []

        def look(same):
            seen.append(same.is_watched)

        look(world)
        watched(world, lambda same: (look(same), same.do(("spy", "f")), look(same)))
        look(world)
        unseen(world, look)
        look(world)
        watched(world, lambda same: (unseen(same, look), look(same)))
        look(world)
        unseen(world, lambda same: (look(same), watched(same, look), look(same)))
        look(world)
        self.assertEqual(seen, [
            False, True, True, False, False, False, True, True, False, False, True, False, False])

    def test_a_second_watched(self):
        world = one_of_each()

        def deed(same):
            same.do(("keep", "n"))
            with self.assertRaises(Watched):
                watched(same, doing(("lift", "l")))
            same.do(("seed", "d"))
            self.assertIs(same.is_watched, True)

        self.assertEqual(watched(world, deed), ([("keep", "n"), ("seed", "d")], ["d", "n"]))
        self.assertEqual(world["l"], False)
        self.assertEqual(watched(world, doing(("lift", "l"))), ([("lift", "l")], ["l"]))

    def test_a_second_watched_inside_an_unseen(self):
        world = one_of_each()

        def deed(same):
            with self.assertRaises(Watched):
                unseen(same, lambda again: watched(again, doing(("lift", "l"))))
            with self.assertRaises(Watched):
                unseen(same, lambda again: unseen(again, lambda third: watched(third, doing(("lift", "l")))))

        self.assertEqual(watched(world, deed), ([], []))
        self.assertIs(world.is_watched, False)

    def test_errors_go_on(self):
        for error in [Trouble, KeyError, BadDeed, KeyboardInterrupt, SystemExit, GeneratorExit, StopIteration]:
            raised = error("x")

            def deed(same):
                same.do(("keep", "n"))
                raise raised

            world = one_of_each()
            with self.assertRaises(error) as caught:
                watched(world, deed)
            self.assertIs(caught.exception, raised)
            self.assertIs(world.is_watched, False)
            self.assertEqual(world, after(("keep", "n")))
            self.assertEqual(watched(world, doing(("lift", "l"))), ([("lift", "l")], ["l"]))

    def test_an_uncaught_refused_deed(self):
        world = one_of_each()
        with self.assertRaises(NoThing):
            watched(world, doing(("lift", "l"), ("lift", "x"), ("keep", "n")))
        self.assertEqual(world, after(("lift", "l")))
        self.assertIs(world.is_watched, False)

    def test_returned_lists_do_not_change(self):
        world = one_of_each()
        first = watched(world, doing(("lift", "l")))
        world.do(("keep", "n"))
        second = watched(world, doing(("seed", "d"), ("keep", "n")))
        unseen(world, doing(("roll", "d")))
        self.assertEqual(first, ([("lift", "l")], ["l"]))
        self.assertEqual(second, ([("seed", "d"), ("keep", "n")], ["d", "n"]))
        second[0].clear()
        self.assertEqual(watched(world, doing(("spy", "f"))), ([("spy", "f")], []))

    def test_arguments_by_name(self):
        world = one_of_each()
        self.assertEqual(watched(deed=doing(("spy", "f")), world=world), ([("spy", "f")], []))
        self.assertEqual(unseen(deed=doing(("roll", "d")), world=world), [(0, 0)])


class UnseenTest(unittest.TestCase):
    DEEDS = [
        ("fetch", "f", 5), ("bind", "g", "f"), ("drain", "g"), ("seed", "d"), ("roll", "d"), ("get", "t", "a"),
        ("load", "t", ("b",)), ("change", "s"), ("look", "v"), ("lift", "l"), ("keep", "n"), ("mark", "n", "p")]

    def test_what_is_returned(self):
        kept = []
        self.assertIs(unseen(one_of_each(), lambda world: kept), kept)
        self.assertIsNone(unseen(one_of_each(), lambda world: None))
        self.assertEqual(unseen(one_of_each(), doing(("get", "t", "a"), ("roll", "d"))), [0, (0, 0)])

    def test_the_world_is_as_before(self):
        for before in [[], self.DEEDS]:
            world = after(*before)
            unseen(world, doing(*self.DEEDS))
            self.assertEqual(world, after(*before))
            world.do(("keep", "n"))
            world.do(("fetch", "f", 1))
            world.do(("seed", "d"))
            self.assertEqual(world, after(*before, ("keep", "n"), ("fetch", "f", 1), ("seed", "d")))

    def test_deeds_are_done_meanwhile(self):
        def deed(world):
            world.do(("take", "f"))
            return world["f"], world.do(("take", "f"))

        world = after(("fetch", "f", 5), ("bind", "g", "f"))
        self.assertEqual(unseen(world, deed), ((1, 1, 5), (1, 1)))
        self.assertEqual((world["f"], world["g"]), ((1, 0, 5), (1, 0, 5)))

    def test_errors_go_on(self):
        for error in [Trouble, KeyError, BadDeed, KeyboardInterrupt, SystemExit, GeneratorExit, StopIteration]:
            raised = error("x")

            def deed(same):
                doing(*self.DEEDS)(same)
                raise raised

            world = after(("keep", "n"))
            with self.assertRaises(error) as caught:
                unseen(world, deed)
            self.assertIs(caught.exception, raised)
            self.assertEqual(world, after(("keep", "n")))
            self.assertIs(world.is_watched, False)

    def test_inside_of_itself(self):
        def deed(world):
            world.do(("keep", "n"))
            unseen(world, doing(*self.DEEDS))
            return world["n"], world["l"]

        world = one_of_each()
        self.assertEqual(unseen(world, deed), (1, False))
        self.assertEqual(world, after())

    def test_inside_of_watched(self):
        def deed(world):
            world.do(("keep", "n"))
            unseen(world, doing(*self.DEEDS))
            self.assertIs(world.is_watched, True)
            world.do(("lift", "l"))

        world = one_of_each()
        self.assertEqual(watched(world, deed), ([("keep", "n"), ("lift", "l")], ["l", "n"]))
        self.assertEqual(world, after(("keep", "n"), ("lift", "l")))

    def test_an_error_inside_of_watched(self):
        def trouble(world):
            doing(*self.DEEDS)(world)
            raise Trouble()

        def deed(world):
            world.do(("keep", "n"))
            with self.assertRaises(Trouble):
                unseen(world, trouble)
            self.assertIs(world.is_watched, True)
            self.assertEqual(world, after(("keep", "n")))
            world.do(("lift", "l"))

        world = one_of_each()
        self.assertEqual(watched(world, deed), ([("keep", "n"), ("lift", "l")], ["l", "n"]))
        self.assertIs(world.is_watched, False)

    def test_watched_inside_of_it(self):
        def deed(world):
            world.do(("keep", "n"))
            told = watched(world, doing(("lift", "l"), ("tell", "n")))
            world.do(("seed", "d"))
            return told

        world = one_of_each()
        self.assertEqual(unseen(world, deed), ([("lift", "l"), ("tell", "n")], ["l"]))
        self.assertEqual(world, after())
        self.assertIs(world.is_watched, False)

    def test_an_error_of_watched_inside_of_it(self):
        def trouble(world):
            doing(*self.DEEDS)(world)
            raise Trouble()

        world = after(("keep", "n"))
        with self.assertRaises(Trouble):
            unseen(world, lambda same: watched(same, trouble))
        self.assertEqual(world, after(("keep", "n")))
        self.assertIs(world.is_watched, False)
        with self.assertRaises(Trouble):
            watched(world, lambda same: unseen(same, trouble))
        self.assertEqual(world, after(("keep", "n")))
        self.assertIs(world.is_watched, False)

    def test_a_duplicate_made_inside(self):
        def deed(world):
            world.do(("keep", "n"))
            twin = world.duplicate()
            world.do(("lift", "l"))
            return twin

        world = one_of_each()
        twin = unseen(world, deed)
        self.assertEqual((twin, world), (after(("keep", "n")), after()))
        twins = []
        watched(world, lambda same: twins.append(unseen(same, deed)))
        self.assertIs(twins[0].is_watched, False)
        self.assertEqual(watched(twins[0], doing(("lift", "l"))), ([("lift", "l")], ["l"]))
        self.assertEqual((twins[0], world), (after(("keep", "n"), ("lift", "l")), after()))

    def test_other_worlds_keep_what_is_done(self):
        world, other = one_of_each(), one_of_each()
        unseen(world, lambda _: other.do(("keep", "n")))
        self.assertEqual((world, other), (after(), after(("keep", "n"))))
