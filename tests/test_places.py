"""Places, and what comes behind them [12]."""

import itertools
import random
import unittest

from quietprobes.errors import BadPlace
from quietprobes.programs import Program
from tests.samples import NO_NAMES, ODD_OBJECTS, same
from tests.samples_of_programs import Walk, mixed, places_of, program_of, random_program, things

IF, WHILE, ELSE, END, STOP = ("if", "ask", "w"), ("while", "ask", "w"), ("else",), ("end",), ("stop",)
TAKE = ("take", "f")
ASSERT = ("assert", "p", "always", (), ("bound", "n"))
PROBE = ("probe", "q", "always", (), ())
ROWS = [
    ("take", "f"), ("skip", "f"), ("drain", "f"), ("fetch", "f"), ("bind", "f", "g"), ("roll", "d"), ("seed", "d"),
    ("get", "t", "a"), ("peek", "t", "a"), ("put", "t", "a"), ("fill", "t", "a"), ("drop", "t", "a"), ("size", "t"),
    ("keys", "t"), ("load", "t"), ("wipe", "t"), ("change", "s"), ("look", "v"), ("glance", "v"), ("renew", "v"),
    ("lift", "l"), ("read", "l"), ("watch", "l"), ("keep", "n"), ("copy", "n", "n"), ("tell", "n"), ("say", "hi"),
]
NO_PLACES = [thing for thing in [*ODD_OBJECTS, *NO_NAMES] if thing != ()]
NO_PLACES += [
    [0], [1], "()", "0", (True,), (False,), (-1,), ("0",), (0, 0), (0, 1), (0, None), (None,), ((0,),), ([0],), ((),),
    (10 ** 39,), (-10 ** 39,), (0,) * 500, [(0,)], ("main", 0), (0, "main"),
]


class BehindTest(unittest.TestCase):
    def assert_behind(self, program, place, by_true, by_false):
        for true in [True, (1, 0), (5, 10 ** 30)]:
            self.assertTrue(same(program.behind(place, true), by_true), (place, true))
        for false in [False, None]:
            self.assertTrue(same(program.behind(place, false), by_false), (place, false))
        self.assertTrue(same(program.behind(place), by_true), place)

    def test_first_place(self):
        self.assertTrue(same(mixed().first_place(), (0,)))
        self.assertTrue(same(program_of(STOP).first_place(), (0,)))
        self.assertTrue(same(Program([], ("a", ())).first_place(), ()))
        self.assertTrue(same(Program([], ("a", ()), ("b", [STOP])).first_place(), ()))

    def test_other_rows(self):
        for row in [*ROWS, PROBE]:
            self.assert_behind(program_of(row, TAKE), (0,), (1,), (1,))
            self.assert_behind(program_of(TAKE, row), (1,), (), ())
            self.assert_behind(program_of(IF, row, END), (1,), (2,), (2,))

    def test_stop_and_assert(self):
        self.assert_behind(program_of(STOP, TAKE), (0,), (), ())
        self.assert_behind(program_of(ASSERT, TAKE), (0,), (1,), ())
        self.assert_behind(program_of(ASSERT), (0,), (), ())
        program = Program(things(), ("a", [("call", "b"), TAKE]), ("b", [ASSERT, STOP, TAKE]))
        self.assert_behind(program, (0, 2), (0, 3), ())
        self.assert_behind(program, (0, 3), (), ())
        self.assert_behind(program, (0, 4), (1,), (1,))

    def test_if_without_else(self):
        for test in [("ask", "w"), ("take", "f"), ("has", "t", "a"), ("read", "l"), ("bound", "n")]:
            program = program_of(("if", *test), TAKE, END, TAKE)
            self.assert_behind(program, (0,), (1,), (3,))
            self.assert_behind(program, (2,), (3,), (3,))
        self.assert_behind(program_of(IF, END), (0,), (1,), ())
        self.assert_behind(program_of(IF, END), (1,), (), ())

    def test_if_with_else(self):
        program = program_of(IF, TAKE, ELSE, TAKE, TAKE, END, TAKE)
        self.assert_behind(program, (0,), (1,), (3,))
        self.assert_behind(program, (1,), (2,), (2,))
        self.assert_behind(program, (2,), (6,), (6,))
        self.assert_behind(program, (4,), (5,), (5,))
        self.assert_behind(program, (5,), (6,), (6,))
        empty = program_of(IF, ELSE, END)
        self.assert_behind(empty, (0,), (1,), (2,))
        self.assert_behind(empty, (1,), (), ())
        self.assert_behind(empty, (2,), (), ())

    def test_while(self):
        for test in [("ask", "w"), ("take", "f")]:
            program = program_of(("while", *test), TAKE, END, TAKE)
            self.assert_behind(program, (0,), (1,), (3,))
            self.assert_behind(program, (1,), (2,), (2,))
            self.assert_behind(program, (2,), (0,), (0,))
        self.assert_behind(program_of(WHILE, END), (0,), (1,), ())
        self.assert_behind(program_of(WHILE, END), (1,), (0,), (0,))

    def test_blocks_in_blocks(self):
        program = program_of(IF, WHILE, IF, ELSE, END, END, ELSE, IF, END, WHILE, END, END)
        for place, by_true, by_false in [
            ((0,), (1,), (7,)), ((1,), (2,), (6,)), ((2,), (3,), (4,)), ((3,), (5,), (5,)), ((4,), (5,), (5,)),
            ((5,), (1,), (1,)), ((6,), (), ()), ((7,), (8,), (9,)), ((8,), (9,), (9,)), ((9,), (10,), (11,)),
            ((10,), (9,), (9,)), ((11,), (), ()),
        ]:
            self.assert_behind(program, place, by_true, by_false)

    def test_calls(self):
        program = Program(
            things(), ("a", [("call", "b"), TAKE, ("call", "none"), ("call", "c")]),
            ("b", [IF, ("call", "c"), END, ("call", "none")]), ("c", [TAKE, ("call", "empty")]), ("none", ()),
            ("empty", ()))
        for place, behind in [
            ((0,), (0, 4)), ((1,), (2,)), ((2,), (3,)), ((3,), (3, 8)), ((0, 5), (0, 5, 8)), ((0, 5, 8), (0, 5, 9)),
            ((0, 5, 9), (0, 6)), ((0, 6), (0, 7)), ((0, 7), (1,)), ((3, 8), (3, 9)), ((3, 9), ()),
        ]:
            self.assert_behind(program, place, behind, behind)
        self.assert_behind(program, (0, 4), (0, 5), (0, 7))
        self.assert_behind(Program(things(), ("a", [("call", "b"), TAKE]), ("b", [("call", "c")]), ("c", ())),
                           (0, 2), (1,), (1,))

    def test_several_parts_left_at_once(self):
        parts = [("a", [("call", "b")]), ("b", [("call", "c")]), ("c", [("call", "d")]), ("d", [("call", "e")]),
                 ("e", [IF, TAKE, END])]
        program = Program(things(), *parts)
        self.assert_behind(program, (0, 1, 2, 3), (0, 1, 2, 3, 4), (0, 1, 2, 3, 4))
        self.assert_behind(program, (0, 1, 2, 3, 4), (0, 1, 2, 3, 5), ())
        self.assert_behind(program, (0, 1, 2, 3, 6), (), ())
        parts[0] = ("a", [WHILE, ("call", "b"), END])
        program = Program(things(), *parts)
        self.assert_behind(program, (1, 3, 4, 5, 8), (2,), (2,))
        self.assert_behind(program, (1, 3, 4, 5, 6), (1, 3, 4, 5, 7), (2,))

    def test_a_part_that_is_called_from_several_places(self):
        rows = [("call", "b"), ("call", "b"), ("call", "c")]
        program = Program([], ("a", rows), ("b", [("call", "c")]), ("c", [STOP]))
        self.assertEqual(places_of(program), [(0,), (0, 3), (0, 3, 4), (1,), (1, 3), (1, 3, 4), (2,), (2, 4)])
        self.assert_behind(program, (1,), (1, 3), (1, 3))
        program = Program(things(), ("a", [("call", "c")] * 2), ("c", [TAKE]))
        self.assert_behind(program, (0, 2), (1,), (1,))
        self.assert_behind(program, (1, 2), (), ())

    def test_runs_through_random_programs(self):
        chance = random.Random(16)
        places = set()
        for _ in range(300):
            program = random_program(chance)
            tries = iter([chance.random() < 0.6 for _ in range(300)])
            steps = Walk(program, lambda: next(tries, False)).go()
            self.assertEqual(program.first_place(), steps[0][0])
            for (place, answer), (following, _) in zip(steps, steps[1:]):
                self.assertTrue(same(program.behind(place, answer), following), (str(program), place, answer))
            places.update(len(place) for place, _ in steps)
        self.assertGreaterEqual(places, {0, 1, 2, 3})


class PlaceTest(unittest.TestCase):
    def test_places_of_a_program(self):
        program = mixed()
        for place in [(), *[(number,) for number in range(10)], (4, 10), (4, 11)]:
            self.assertIs(program.is_place(place), True)
        for bad in [(10,), (11,), (12,), (4, 0), (4, 4), (4, 9), (4, 12), (3, 10), (9, 10), (9, 12), (4, 10, 11),
                    (4, 4, 10), (4, 11, 10), (4, True), (4, None), (4, -1), (4, (10,)), (-1,), (4, "10")]:
            self.assertIs(program.is_place(bad), False, bad)

    def test_places_of_a_program_without_rows(self):
        for program in [Program([], ("a", ())), Program([], ("a", ()), ("b", [STOP]))]:
            self.assertIs(program.is_place(()), True)
            for bad in [(0,), (1,), (0, 0), (False,), []]:
                self.assertIs(program.is_place(bad), False)

    def test_any_objects(self):
        for program in [mixed(), program_of(TAKE), Program([], ("a", ()))]:
            for thing in NO_PLACES:
                self.assertIs(program.is_place(thing), False, thing)
        self.assertIs(program_of(TAKE, TAKE).is_place((1,)), True)
        self.assertIs(program_of(TAKE, TAKE).is_place((True,)), False)
        self.assertIs(program_of(TAKE, TAKE).is_place([1]), False)

    def test_all_tuples_in_random_programs(self):
        chance = random.Random(11)
        for _ in range(40):
            program = random_program(chance, 12)
            wanted = {(), *places_of(program)}
            for many in range(4):
                for numbers in itertools.product(range(-1, len(program) + 2), repeat=many):
                    self.assertIs(program.is_place(numbers), numbers in wanted)
            for place in wanted:
                self.assertIs(program.is_place(place), True)
                self.assertIs(program.is_place(list(place)), False)

    def test_behind_no_place(self):
        program = mixed()
        for bad in [(), *NO_PLACES, (10,), (12,), (4, 4), (9, 12), [4, 10], (4, 10, 0)]:
            for answer in [True, False]:
                with self.subTest(bad=bad), self.assertRaises(BadPlace) as caught:
                    program.behind(bad, answer)
                self.assertTrue(same(caught.exception.place, bad))
        with self.assertRaises(BadPlace):
            Program([], ("a", ())).behind(())
