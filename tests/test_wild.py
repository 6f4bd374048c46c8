"""Random programs: the package against what is told a second time, from the document alone."""

import itertools
import random
import unittest

from quietprobes.comparing import compare
from quietprobes.contents import Contents
from quietprobes.errors import TooMany
from quietprobes.joint import first_pair, is_pair, moves, normal, uneven
from quietprobes.programs import Program
from quietprobes.runs import Run, play, play_events
from quietprobes.settings import Setting
from quietprobes.things import Thing
from quietprobes.verdicts import failing, judge, partings
from tests.samples import same
from tests.second_moves import second_moves, second_reach
from tests.second_runs import SecondRun, second_compare
from tests.wild_programs import GATES, Wild, wild_contents, wild_settings


def wild_program(chance):
    return Wild(chance, most_things=chance.choice([1, 2, 3]), most_rows=chance.choice([5, 8, 12]), probes=chance.choice([1, 2, 3])).program()


def long_program(chance):
    return Wild(chance, most_things=chance.choice([2, 4, 6]), most_rows=chance.choice([6, 12, 20]), probes=chance.choice([1, 2, 3, 5])).program()


def trail_program(chance):
    """A program in which uneven contents go far before they are seen."""
    kind = chance.choice(["slot", "feed", "field"])
    things = {
        "slot": [Thing.slot(name) for name in "nmoi"], "feed": [Thing.feed(name) for name in "fghi"],
        "field": [Thing.source("s"), Thing.field("v", "s"), Thing.field("w", "v"), Thing.field("x", "w"), Thing.field("y", "v")],
    }[kind]
    names = [thing.name for thing in things if thing.kind == kind]

    def looks():
        picks = {"slot": ["mark"], "feed": ["take", "drain"], "field": ["look", "look", "renew"]}[kind]
        return tuple([(chance.choice(picks), chance.choice(names)) for _ in range(chance.randrange(3))])

    def row():
        name, other = chance.choice(names), chance.choice(names)
        return chance.choice({
            "slot": [("copy", name, other)] * 6 + [("keep", name)], "feed": [("bind", name, other)] * 5 + [("fetch", name), ("skip", name)],
            "field": [("renew", name), ("change", "s")],
        }[kind])

    rows = [row() for _ in range(chance.randrange(30))]
    for name in "pqrst":
        rows.insert(chance.randrange(len(rows) + 1), ("probe", name, chance.choice(GATES), looks(), looks()))
    ahead = [({"slot": "keep", "feed": "fetch", "field": "look"}[kind], name) for name in names]
    rows = [*ahead, ("while", "ask", "w"), *rows, ("end",)]
    return Program(things, ("main", rows + [({"slot": "tell", "feed": "take", "field": "look"}[kind], name) for name in names]))


def as_dict(parting):
    return parting and {word: getattr(parting, word) for word in ("rows", "row", "alike", "events", "thing", "trail")}


class RunsTest(unittest.TestCase):
    def test_runs(self):
        for seed in range(250):
            chance = random.Random(seed)
            program = long_program(chance)
            for _ in range(4):
                contents, (base, setting) = wild_contents(chance), wild_settings(chance, program)
                for mode in (base, setting):
                    self.assert_run(program, contents, mode)

    def assert_run(self, program, contents, setting):
        wanted = SecondRun(program, contents, setting)
        run = Run(program, contents, setting)
        for at, ((place, _), (_, event, _)) in enumerate(zip(wanted.steps, wanted.passed)):
            self.assertTrue(same((run.place, run.rows, run.is_over, run.failed), (place, at, False, None)))
            self.assertTrue(same(run.step(), event))
        self.assertTrue(run.is_over and run.failed == wanted.failed)
        world = run.world_so_far()
        self.assertEqual({thing.name: world[thing.name] for thing in program.things}, wanted.snapshot())
        for events in (run.events_so_far(), run.finish(), play(program, contents, setting), list(play_events(program, contents, setting))):
            self.assertTrue(same(events, wanted.events))


class CompareTest(unittest.TestCase):
    def assert_compared(self, program, contents, setting, base):
        found = as_dict(compare(program, contents, setting, base=base))
        wanted = second_compare(program, contents, setting, base)
        self.assertEqual(found is None, wanted is None)
        if wanted:
            self.assertTrue(same(tuple(found.items()), tuple(wanted.items())), (str(program), found, wanted))
        return wanted

    def test_compare(self):
        many = 0
        for seed in range(600):
            chance = random.Random(seed)
            program = long_program(chance)
            for _ in range(4):
                base, setting = wild_settings(chance, program)
                many += self.assert_compared(program, wild_contents(chance), setting, base) is not None
        self.assertGreater(many, 60)

    def test_trails(self):
        longest = 0
        for seed in range(1500):
            chance = random.Random(seed)
            program = trail_program(chance)
            contents = Contents([True] * chance.randrange(4), [chance.randrange(6) for _ in range(20)])
            base, setting = wild_settings(chance, program)
            found = self.assert_compared(program, contents, setting, base)
            longest = max(longest, len(found["trail"]) if found else 0)
        self.assertGreater(longest, 4)


class DecidedTest(unittest.TestCase):
    def samples(self, seeds):
        """Programs, settings and bases, most of them such that some setting is harmful."""
        for seed in range(seeds):
            chance = random.Random(seed)
            program = wild_program(chance)
            try:
                if not judge(program, Setting.every(program)) or chance.random() < 0.05:
                    yield (chance, program, *wild_settings(chance, program))
            except TooMany:
                pass

    def test_moves(self):
        for _, program, base, setting in self.samples(700):
            for pair in judge(program, setting, base=base).pairs:
                self.assertTrue(is_pair(program, pair, setting))
                self.assertTrue(same(normal(program, pair[1]), pair[1]))
                found = moves(program, pair, setting, base=base)
                self.assertTrue(same(found, second_moves(program, pair, setting, base)), (str(program), pair))
                self.assertEqual(found, sorted(found, key=lambda move: move[0]))

    def test_answers(self):
        harmful = failed = 0
        for chance, program, base, setting in self.samples(1500):
            verdict = judge(program, setting, base=base)
            depths, parts = second_reach(program, setting, base, first_pair(program))
            self.assertEqual((len(verdict.pairs), set(verdict.pairs)), (len(depths), set(depths)))
            self.assertEqual(verdict.is_harmless, not parts)
            found = partings(program, setting, base=base)
            self.assertEqual([told[:2] for told in found], sorted(parts.items()))
            for number, rows, contents in found:
                parting = second_compare(program, contents, setting, base)
                self.assertEqual((parting["row"], parting["rows"]), (number, rows))
            if parts:
                harmful += 1
                self.assertEqual(verdict.rows, min(parts.values()))
                self.assertEqual(as_dict(verdict.parting), second_compare(program, verdict.contents, setting, base))
                self.assertEqual(verdict.parting.rows, verdict.rows)
            fails = {name: rows for name, rows, _ in failing(program, setting)}
            for name, rows, contents in failing(program, setting):
                run = SecondRun(program, contents, setting)
                self.assertEqual((run.failed, len(run.passed)), (name, rows))
            failed += len(fails)
            for _ in range(10):
                self.assert_contents_fit(program, wild_contents(chance), setting, base, parts, fails)
        self.assertGreater(harmful, 40)
        self.assertGreater(failed, 10)

    def assert_contents_fit(self, program, contents, setting, base, parts, fails):
        """No contents make the runs part, or an assert fail, where and when it was not told."""
        parting = second_compare(program, contents, setting, base)
        if parting:
            self.assertGreaterEqual(parting["rows"], parts[parting["row"]])
        run = SecondRun(program, contents, setting)
        if run.failed:
            self.assertGreaterEqual(len(run.passed), fails[run.failed])

    def test_all_small_contents(self):
        """No contents at all part the runs after fewer rows, and those that are told do so after the fewest."""
        for chance, program, base, setting in self.samples(120):
            verdict = judge(program, setting, base=base)
            fewest = {}
            for answers in itertools.product([False, True], repeat=4):
                for lengths in itertools.product(range(3), repeat=2):
                    contents = Contents(answers, lengths, [chance.choice([(), ("a",), ("b",), ("a", "b")]) for _ in range(2)])
                    parting = compare(program, contents, setting, base=base)
                    if parting:
                        fewest[parting.row] = min(parting.rows, fewest.get(parting.row, parting.rows))
            found = {number: rows for number, rows, _ in partings(program, setting, base=base)}
            self.assertEqual(verdict.is_harmless, not found)
            for number, rows in fewest.items():
                self.assertLessEqual(found[number], rows)

    def test_the_two_runs_go_the_ways_of_moves(self):
        """Each step of two runs is a move, and what is uneven in the joint state is uneven in the worlds."""
        for chance, program, base, setting in self.samples(300):
            for _ in range(3):
                contents = wild_contents(chance)
                runs = Run(program, contents, base), Run(program, contents, setting)
                parting = compare(program, contents, setting, base=base)
                states = [first_pair(program)[1]]
                for _ in range(parting.rows - 1 if parting else 1000):
                    place = runs[0].place
                    if runs[0].is_over or runs[1].is_over:
                        break
                    self.assertEqual(runs[1].place, place)
                    runs[0].step(), runs[1].step()
                    found = [move for state in states for move in moves(program, (place, state), setting, base=base)]
                    worlds = runs[0].world_so_far(), runs[1].world_so_far()
                    states = [state for _, following, state in found if following == runs[1].place != () and
                              uneven(program, state) == worlds[0] ^ worlds[1]]
                    states = list(dict.fromkeys(states))
                    self.assertTrue(states or runs[1].is_over or runs[0].is_over)


class NamesTest(unittest.TestCase):
    """The names of things, keys, parts and probes do not matter, but for where they are told and ordered."""

    def test_other_names(self):
        for seed in range(400):
            chance = random.Random(seed)
            program = wild_program(chance)
            base, setting = wild_settings(chance, program)
            words = {"d": "roll", "p": "zz", "q": "probe", "r": "a", "z": "f", "y": "main", "f": "take", "t": "p", "n": "if", "m": "stop",
                     "l": "lift", "s": "end", "v": "aa", "w": "ab", "x": "ac", "main": "q", "one": "two", "two": "one"}
            keys = {"a": "zzz", "b": "yes"}
            other = renamed_program(program, words, keys)
            others = [renamed_setting(program, given, words) for given in (base, setting)]
            found, wanted = judge(program, setting, base=base), judge(other, others[1], base=others[0])
            self.assertEqual((found.is_harmless, found.rows, len(found.pairs)), (wanted.is_harmless, wanted.rows, len(wanted.pairs)))
            if not found:
                self.assertEqual([(number, words.get(name, name)) for number, name in found.parting.trail], wanted.parting.trail)
                self.assertEqual(words.get(found.parting.thing, found.parting.thing), wanted.parting.thing)
            self.assertEqual([told[:2] for told in partings(program, setting, base=base)],
                             [told[:2] for told in partings(other, others[1], base=others[0])])
            self.assertEqual([(words[name], rows) for name, rows, _ in failing(program, setting)],
                             [told[:2] for told in failing(other, others[1])])


def renamed_program(program, words, keys):
    def tell(word):
        return words.get(word, word)

    def row_of(row):
        if row[0] in ("probe", "assert"):
            word, name, gate, args, rest = row
            looks = row_of(rest) if word == "assert" else tuple(map(row_of, rest))
            return word, tell(name), gate, tuple(map(row_of, args)), looks
        if row[0] in ("if", "while"):
            return (row[0], *row_of(row[1:]))
        if len(row) == 1 or row[0] in ("say", "ask"):
            return row
        last = [keys[name] if row[0] in ("get", "peek", "has", "put", "fill", "drop") else tell(name) for name in row[2:]]
        return (row[0], tell(row[1]), *last)

    things = [Thing(thing.kind, tell(thing.name), tuple((keys if thing.kind == "table" else words)[part] for part in thing.parts))
              for thing in program.things]
    return Program(things, *[(tell(name), [row_of(row) for row in rows]) for name, rows in program.parts])


def renamed_setting(program, setting, words):
    other = Setting()
    for name in program.probes:
        other[words[name]] = setting[name]
    return other
