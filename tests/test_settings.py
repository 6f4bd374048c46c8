"""Settings [14]."""

import itertools
import random
import unittest

from quietprobes import settings
from quietprobes.errors import BadMode, BadName, Twice
from quietprobes.programs import Program
from quietprobes.settings import Setting, without_asserts
from tests.samples import NAMES, NO_NAMES, ODD_OBJECTS, same
from tests.samples_of_programs import mixed

MODES = ["out", "deaf", "on"]
NO_MODES = [*ODD_OBJECTS, *NO_NAMES, "On", "ON", "on ", " on", "off", "first", "a", ["on"], ("on",), ("out", "deaf")]


def modes_of(setting, names="abcd"):
    """The modes of some names, as numbers."""
    return [MODES.index(setting[name]) for name in names]


def setting_of(modes, names="abcd"):
    """The setting with these modes, as numbers, of some names."""
    return Setting(*[name for name, mode in zip(names, modes) if mode == 2],
                   deaf=[name for name, mode in zip(names, modes) if mode == 1])


def all_settings(names="abc"):
    return [setting_of(modes, names) for modes in itertools.product(range(3), repeat=len(names))]


class MadeTest(unittest.TestCase):
    def test_modes(self):
        setting = Setting("a", "b", deaf=["c", "d"])
        self.assertTrue(same([setting[name] for name in "abcde"], ["on", "on", "deaf", "deaf", "out"]))
        self.assertTrue(same([Setting()[name] for name in NAMES], ["out"] * len(NAMES)))

    def test_ways_to_name_deaf_probes(self):
        self.assertEqual(Setting("a", deaf=("c", "d")), Setting("a", deaf=["d", "c"]))
        self.assertEqual(Setting(deaf=["c"]), Setting(deaf=("c",)))
        self.assertEqual(Setting("a", deaf=()), Setting("a", deaf=[]))
        with self.assertRaises(BadName):
            Setting("a", ["b"])

    def test_class_values(self):
        self.assertTrue(same((Setting.OUT, Setting.DEAF, Setting.ON), ("out", "deaf", "on")))
        self.assertTrue(same((Setting().OUT, Setting().DEAF, Setting().ON), ("out", "deaf", "on")))

    def test_a_list_that_is_changed_afterwards(self):
        deaf = ["a"]
        setting = Setting(deaf=deaf)
        deaf.append("b")
        self.assertEqual(setting.names(), ["a"])
        setting["c"] = "deaf"
        self.assertEqual(deaf, ["a", "b"])

    def test_no_names(self):
        for bad in NO_NAMES:
            for on, deaf in [([bad], []), ([], [bad]), (["a", bad], ["b", ""]), (["a"], ["b", bad]), ([bad], [[]]),
                             (["a"], ["a", bad]), ([bad, "A"], ["a"]), (["a"], ("b", bad, None)), ("aab", [bad])]:
                with self.subTest(on=on, deaf=deaf), self.assertRaises(BadName) as caught:
                    Setting(*on, deaf=deaf)
                self.assertTrue(same(caught.exception.name, bad))

    def test_names_of_on_ahead_of_those_of_deaf(self):
        for first, second in [(True, 1), (1, True), ("A", "B"), ([], ())]:
            with self.assertRaises(BadName) as caught:
                Setting("a", first, deaf=[second])
            self.assertTrue(same(caught.exception.name, first))

    def test_names_that_are_there_twice(self):
        for on, deaf, twice in [("aa", "", "a"), ("", "bb", "b"), ("a", "a", "a"), ("abba", "", "b"),
                                ("ab", "dcba", "b"), ("ab", "ddab", "d"), ("abcc", "ba", "c")]:
            for kind in [list, tuple]:
                with self.subTest(on=on, deaf=deaf), self.assertRaises(Twice) as caught:
                    Setting(*on, deaf=kind(deaf))
                self.assertEqual(caught.exception.name, twice)

    def test_methods_are_its_own(self):
        for name in ["__getitem__", "__setitem__", "__len__", "__contains__", "__or__", "__and__", "__ior__", "__sub__",
                     "__xor__", "__eq__", "names", "is_within", "duplicate", "every"]:
            self.assertIn(name, vars(Setting))
        self.assertIsInstance(vars(Setting)["every"], staticmethod)
        for defined in [Setting, without_asserts]:
            self.assertEqual(defined.__module__, settings.__name__)


class AskedTest(unittest.TestCase):
    def test_names(self):
        self.assertTrue(same(Setting().names(), []))
        self.assertTrue(same(Setting("b", "d", deaf=["c", "a"]).names(), ["a", "b", "c", "d"]))
        names = ["b", "ab", "aab", "aa", "a", "ba", "zzzzzzzz", "z", "za", "zz"]
        self.assertEqual(Setting(*names[:5], deaf=names[5:]).names(), sorted(names))
        self.assertEqual(Setting(*names).names(), ["a", "aa", "aab", "ab", "b", "ba", "z", "za", "zz", "zzzzzzzz"])

    def test_names_are_new_each_time(self):
        setting = Setting("a", "b")
        setting.names().clear()
        self.assertEqual(setting.names(), ["a", "b"])

    def test_length_and_truth(self):
        made = [(Setting(), 0), (Setting("a"), 1), (Setting(deaf=["a"]), 1), (Setting("a", "b", deaf=["c"]), 3)]
        for setting, many in made:
            self.assertTrue(same(len(setting), many))
            self.assertIs(bool(setting), many > 0)
        setting = Setting("a")
        setting["a"] = "out"
        self.assertEqual((len(setting), bool(setting)), (0, False))

    def test_contains(self):
        setting = Setting("a", "one", deaf=["b"])
        setting["c"] = "out"
        for name in ["a", "one", "b"]:
            self.assertIs(name in setting, True)
        for bad in ["c", "d", "on", "deaf", "out", *ODD_OBJECTS, *NO_NAMES]:
            if bad != "a":
                self.assertIs(bad in setting, False, bad)

    def test_no_names(self):
        for bad in NO_NAMES:
            with self.assertRaises(BadName) as caught:
                Setting("a")[bad]
            self.assertTrue(same(caught.exception.name, bad))

    def test_is_not_iterated_over(self):
        with self.assertRaises(TypeError):
            list(Setting("a"))

    def test_within(self):
        for one in all_settings():
            for other in all_settings():
                pairs = zip(modes_of(one), modes_of(other))
                self.assertIs(one.is_within(other), all(x <= y for x, y in pairs))
        self.assertIs(Setting("a").is_within(other=Setting("a", "b")), True)

    def test_equal(self):
        for at, one in enumerate(all_settings()):
            for place, other in enumerate(all_settings()):
                self.assertIs(one == other, at == place)
                self.assertIs(one != other, at != place)
        for other in [*ODD_OBJECTS, {}, {"a": "on"}, ["a"], mixed(), Setting]:
            for setting in [Setting(), Setting("a")]:
                self.assertIs(setting == other, False)
                self.assertIs(other == setting, False)
                self.assertIs(setting != other, True)

    def test_equal_however_they_were_made(self):
        setting = Setting("x", "b", deaf=["c"])
        setting["x"] = "out"
        setting["a"] = "on"
        self.assertEqual(setting, Setting("a", "b", deaf=["c"]))
        setting["a"] = "deaf"
        self.assertNotEqual(setting, Setting("a", "b", deaf=["c"]))
        setting["z"] = "out"
        self.assertEqual(setting, Setting("b", deaf=["a", "c"]))


class ChangedTest(unittest.TestCase):
    def test_each_mode_to_each_mode(self):
        for mode in MODES:
            for other in MODES:
                setting = Setting("b", deaf=["c"])
                setting["a"] = mode
                self.assertTrue(same(setting["a"], mode))
                setting["a"] = other
                self.assertTrue(same(setting["a"], other))
                self.assertEqual([setting["b"], setting["c"], setting["d"]], ["on", "deaf", "out"])
                self.assertEqual(setting.names(), ["a", "b", "c"] if other != "out" else ["b", "c"])
                self.assertEqual(len(setting), 3 if other != "out" else 2)
                self.assertIs("a" in setting, other != "out")

    def assert_refused(self, error, bad, name, mode):
        setting = Setting("a", deaf=["b"])
        with self.assertRaises(error) as caught:
            setting[name] = mode
        self.assertTrue(same(list(vars(caught.exception).values()), [bad]))
        self.assertEqual(setting, Setting("a", deaf=["b"]))

    def test_no_names_and_no_modes(self):
        for bad in NO_NAMES:
            for mode in ["on", "deaf", "out", "off", None, [], True]:
                self.assert_refused(BadName, bad, bad, mode)
        for bad in NO_MODES:
            for name in ["a", "b", "c"]:
                self.assert_refused(BadMode, bad, name, bad)

    def test_two_names_for_one_setting(self):
        setting = Setting("a")
        other = setting
        twin = setting.duplicate()
        setting["b"] = "deaf"
        self.assertEqual(other["b"], "deaf")
        self.assertEqual(twin["b"], "out")
        other |= Setting("c")
        self.assertIs(other, setting)
        self.assertEqual(setting, Setting("a", "c", deaf=["b"]))
        self.assertEqual(twin, Setting("a"))

    def test_duplicate(self):
        for setting in all_settings():
            twin = setting.duplicate()
            self.assertEqual(twin, setting)
            self.assertIsNot(twin, setting)
            before = modes_of(setting)
            for name in "abcd":
                twin[name] = "deaf"
            self.assertEqual(modes_of(setting), before)
            setting["d"] = "on"
            self.assertEqual(twin["d"], "deaf")


class JoinedTest(unittest.TestCase):
    def test_greater_and_lesser_modes(self):
        for one in all_settings():
            for other in all_settings():
                ones, others = modes_of(one), modes_of(other)
                self.assertEqual(modes_of(one | other), [max(x, y) for x, y in zip(ones, others)])
                self.assertEqual(modes_of(one & other), [min(x, y) for x, y in zip(ones, others)])
                self.assertEqual(modes_of(one - other), [0 if y else x for x, y in zip(ones, others)])
                unlike = [name for name, x, y in zip("abcd", ones, others) if x != y]
                self.assertTrue(same(one ^ other, unlike))
                self.assertEqual((modes_of(one), modes_of(other)), (ones, others))

    def test_names_that_only_one_has(self):
        one, other = Setting("ab", "b", deaf=["z"]), Setting("a", "b", deaf=["zz", "ab"])
        self.assertEqual(one | other, Setting("ab", "b", "a", deaf=["z", "zz"]))
        self.assertEqual(one & other, Setting("b", deaf=["ab"]))
        self.assertEqual(one - other, Setting(deaf=["z"]))
        self.assertEqual(other - one, Setting("a", deaf=["zz"]))
        self.assertEqual(one ^ other, ["a", "ab", "z", "zz"])
        self.assertEqual(other ^ one, ["a", "ab", "z", "zz"])

    def test_joined_ones_are_new(self):
        one, other = Setting("a"), Setting()
        for made in [one | other, other | one, one & one, one | one, one - other]:
            self.assertEqual(made, Setting("a"))
            made["a"] = "deaf"
            made["b"] = "on"
            self.assertEqual((one, other), (Setting("a"), Setting()))
        (one ^ other).clear()
        self.assertEqual(one ^ other, ["a"])

    def test_joined_in_place(self):
        for one in all_settings():
            for other in all_settings():
                ones, others = modes_of(one), modes_of(other)
                joined = one.duplicate()
                kept = joined
                joined |= other
                self.assertIs(joined, kept)
                self.assertEqual(modes_of(kept), [max(x, y) for x, y in zip(ones, others)])
                self.assertEqual((modes_of(one), modes_of(other)), (ones, others))

    def test_joined_with_itself(self):
        setting = Setting("b", deaf=["a"])
        setting |= setting
        self.assertEqual(setting, Setting("b", deaf=["a"]))
        self.assertEqual(setting - setting, Setting())
        self.assertEqual(setting ^ setting, [])
        self.assertEqual(setting | setting, setting)

    def test_joined_in_place_only_once(self):
        setting, other = Setting("a"), Setting("b")
        setting |= other
        other["c"] = "on"
        setting["d"] = "on"
        self.assertEqual((setting, other), (Setting("a", "b", "d"), Setting("b", "c")))

    def test_random_changes(self):
        chance = random.Random(14)
        names = ["a", "b", "ab", "abc", "z"]
        setting, model = Setting(), {name: 0 for name in names}
        for _ in range(500):
            name, mode = chance.choice(names), chance.randrange(3)
            if chance.random() < 0.2:
                setting |= Setting(*[name] * (mode == 2), deaf=[name] * (mode == 1))
                model[name] = max(model[name], mode)
            else:
                setting[name] = MODES[mode]
                model[name] = mode
            self.assertEqual(modes_of(setting, names), list(model.values()))
            self.assertEqual(setting.names(), sorted(name for name in names if model[name]))


class ProgramsTest(unittest.TestCase):
    def test_every(self):
        program = mixed()
        self.assertEqual(Setting.every(program), Setting("count", "hold", "last"))
        self.assertEqual(Setting.every(program, mode="on"), Setting("count", "hold", "last"))
        self.assertEqual(Setting.every(program, mode="deaf"), Setting(deaf=["count", "hold", "last"]))
        self.assertEqual(Setting.every(program, mode="out"), Setting())
        self.assertEqual(Setting.every(mode="deaf", program=program).names(), ["count", "hold", "last"])
        self.assertEqual(Setting.every(Program([], ("main", ()))), Setting())
        with self.assertRaises(TypeError):
            Setting.every(program, "on")

    def test_every_without_a_mode(self):
        for program in [mixed(), Program([], ("main", ()))]:
            for bad in NO_MODES:
                with self.subTest(bad=bad), self.assertRaises(BadMode) as caught:
                    Setting.every(program, mode=bad)
                self.assertTrue(same(caught.exception.mode, bad))

    def test_every_is_new_each_time(self):
        program = mixed()
        Setting.every(program)["count"] = "out"
        self.assertEqual(len(Setting.every(program)), 3)

    def test_without_asserts(self):
        program = mixed()
        self.assertEqual(without_asserts(program, Setting.every(program)), Setting("count", "last"))
        self.assertEqual(without_asserts(program, Setting.every(program, mode="deaf")), Setting(deaf=["count", "last"]))
        setting = Setting("strange", "hold", deaf=["last", "main"])
        self.assertEqual(without_asserts(program, setting), Setting("strange", deaf=["last", "main"]))
        self.assertEqual(setting, Setting("strange", "hold", deaf=["last", "main"]))
        self.assertEqual(without_asserts(setting=Setting("x"), program=program), Setting("x"))

    def test_without_asserts_is_new(self):
        setting = Setting("count")
        made = without_asserts(mixed(), setting)
        made["count"] = "deaf"
        self.assertEqual(setting, Setting("count"))
