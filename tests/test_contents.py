"""Contents [15] and their texts [29]."""

import random
import re
import unittest

from quietprobes import contents
from quietprobes.contents import Contents
from quietprobes.errors import BadContents, BadText
from quietprobes.worlds import World
from tests.samples import NAMES, NO_NAMES, ODD_OBJECTS, same

MOST = 10 ** 30
LENGTH = "(0|[1-9][0-9]*)"
NAME = "[a-z]{1,8}"
LOAD = f"(\\.|{NAME}(\\+{NAME})*)"
TEXT = re.compile(f"(-|(yes|no)( (yes|no))*) / (-|{LENGTH}( {LENGTH})*) / (-|{LOAD}( {LOAD})*)")
TEXTS = {
    "- / - / -": Contents(),
    "yes / 0 / .": Contents([True], [0], [()]),
    "no / 7 / a": Contents([False], [7], [("a",)]),
    "yes no no / 3 0 1000 / a+b . abcdefgh+a+a": Contents(
        (True, False, False), (3, 0, 1000), (("a", "b"), (), ("abcdefgh", "a", "a"))),
    "- / 1 / -": Contents(lengths=[1]),
    "- / - / . .": Contents(loads=[[], []]),
    "no yes / - / -": Contents([False, True]),
    f"- / {10 ** 30} {10 ** 30 - 1} 10 / yes+no": Contents((), (10 ** 30, 10 ** 30 - 1, 10), (("yes", "no"),)),
}
NO_TEXTS = [
    # Parts too few and too many, and other signs between them.
    "-", "- / -", "- / - / - / -", "- / 1 / 1 / yes", "- / 1 / -\n- / 1 / -", " / / ", " /  / ", "- / - /", "/ - / -",
    "-/-/-", "- /- / -", "- / - / ", " / - / -", "- /  / -", "", "yes no", "yes / 1",
    # Spaces and line feeds.
    " - / - / -", "- / - / - ", "- / - / -\n", "\n- / - / -", "- /\n- / -", "-  / - / -", "-  /  - / -",
    "yes  no / - / -", "- / 1  2 / -", "- / 1 2  / -", "- /  1 / -", "- / - / a  b", "- / - / a b ", "- / - /  a",
    "- / - / a\nb",
    # Parts with no members beside others.
    "- - / - / -", "- / - - / -", "- / - / - -", "yes - / - / -", "- / 1 - / -", "- / - / - a", "--- / - / -",
    ". / - / -", "- / . / -",
    # Answers.
    "Yes / - / -", "YES / - / -", "true / - / -", "True / - / -", "1 / - / -", "yes,no / - / -", "yesno / - / -",
    "y / - / -",
    # Lengths.
    "- / yes / -", "- / 00 / -", "- / 01 / -", "- / +1 / -", "- / -1 / -", "- / -0 / -", "- / 1.0 / -", "- / 1_0 / -",
    "- / 0x1 / -", "- / 1e3 / -", "- / 1,2 / -", "- / a / -", f"- / {MOST + 1} / -", f"- / 0{MOST} / -",
    f"- / {10 * MOST} / -", f"- / -{MOST} / -",
    # Loads.
    "- / - / A", "- / - / a+", "- / - / +a", "- / - / +", "- / - / a++b", "- / - / a+.", "- / - / .+a", "- / - / ..",
    "- / - / a + b", "- / - / a,b", "- / - / abcdefghi", "- / - / a1", "- / - / a-b", "- / - / -+a", "- / - / a+b+",
    "- / - / 1",
]


def attributes(made):
    return made.answers, made.lengths, made.loads


class MadeTest(unittest.TestCase):
    def test_attributes(self):
        made = Contents((True, False), (0, 5, MOST), (("a", "b"), (), ("b", "b")))
        self.assertTrue(same(attributes(made), ((True, False), (0, 5, MOST), (("a", "b"), (), ("b", "b")))))
        self.assertTrue(same(attributes(Contents()), ((), (), ())))

    def test_lists_count_as_tuples(self):
        made = Contents([True, False], [0, 5], [["a", "b"], [], ("b",)])
        self.assertTrue(same(attributes(made), ((True, False), (0, 5), (("a", "b"), (), ("b",)))))
        self.assertEqual(made, Contents((True, False), (0, 5), (("a", "b"), (), ("b",))))
        self.assertTrue(same(attributes(Contents([], [], [])), ((), (), ())))

    def test_by_position_by_name_and_left_out(self):
        whole = Contents([True], [2], [["a"]])
        self.assertEqual(Contents(loads=[["a"]], answers=[True], lengths=[2]), whole)
        self.assertEqual(Contents([True], loads=[["a"]], lengths=[2]), whole)
        self.assertTrue(same(attributes(Contents([True])), ((True,), (), ())))
        self.assertTrue(same(attributes(Contents(lengths=[2])), ((), (2,), ())))
        self.assertTrue(same(attributes(Contents(loads=[["a"]])), ((), (), (("a",),))))

    def test_lists_that_are_changed_afterwards(self):
        answers, lengths, loads = [True], [2], [["a"], []]
        made = Contents(answers, lengths, loads)
        answers.append(False)
        lengths[0] = 3
        loads[0].append("b")
        loads.append([])
        self.assertTrue(same(attributes(made), ((True,), (2,), (("a",), ()))))

    def test_many_members(self):
        made = Contents([True] * 1000, [MOST] * 1000, [["a"] * 100] * 1000)
        self.assertEqual(len(made), 3000)
        self.assertEqual(len(made.loads[999]), 100)

    def test_methods_are_its_own(self):
        for name in ["__add__", "__len__", "__eq__", "__str__", "read"]:
            self.assertIn(name, vars(Contents))
        self.assertIsInstance(vars(Contents)["read"], staticmethod)
        self.assertEqual(Contents.__module__, contents.__name__)


class RefusedTest(unittest.TestCase):
    def assert_bad(self, part, *args, **named):
        with self.assertRaises(BadContents, msg=(args, named)) as caught:
            Contents(*args, **named)
        self.assertTrue(same(caught.exception.part, part), (args, named))

    def test_other_objects(self):
        for bad in [True, False, 0, 1, -1, None, "", "a", "yes", "a b", 10 ** 39, World()]:
            self.assert_bad("answers", bad)
            self.assert_bad("lengths", (), bad)
            self.assert_bad("loads", (), (), bad)

    def test_answers(self):
        for bad in [0, 1, 2, None, "yes", "True", "", (), [], (True,), [False], -1, 10 ** 39]:
            for answers in [[bad], (bad,), [True, bad], (bad, True), [True] * 999 + [bad]]:
                self.assert_bad("answers", answers)
        for bad in [1, 0]:
            self.assert_bad("answers", answers=[bad])

    def test_lengths(self):
        for bad in [True, False, None, -1, MOST + 1, -MOST, 10 ** 39, "1", "", (), [], (1,), [1]]:
            for lengths in [[bad], (bad,), [0, bad], (bad, 1), [1] * 999 + [bad]]:
                self.assert_bad("lengths", (), lengths)
        self.assertEqual(Contents(lengths=[0, MOST]).lengths, (0, MOST))

    def test_loads(self):
        for bad in [True, False, 0, 1, None, "", "a", "ab", World(), 10 ** 39]:
            for loads in [[bad], (bad,), [(), bad], [bad, ["a"]], [["a"]] * 999 + [bad]]:
                self.assert_bad("loads", (), (), loads)
        for bad in NO_NAMES:
            for load in [[bad], (bad,), ["a", bad], (bad, "a"), ["a"] * 99 + [bad]]:
                self.assert_bad("loads", (), (), [load])
                self.assert_bad("loads", (), (), (["a"], load))
        for name in NAMES:
            self.assertEqual(Contents(loads=[[name]]).loads, ((name,),))

    def test_too_many_members(self):
        self.assert_bad("answers", [True] * 1001)
        self.assert_bad("answers", (False,) * 3000)
        self.assert_bad("lengths", (), [1] * 1001)
        self.assert_bad("loads", (), (), [[]] * 1001)
        self.assert_bad("loads", (), (), [["a"] * 101])
        self.assert_bad("loads", (), (), [["a"] * 100, ("a",) * 101])

    def test_any_objects(self):
        for thing in ODD_OBJECTS:
            if thing not in ([], ()):
                self.assert_bad("answers", thing, 1, 1)
                self.assert_bad("answers", answers=thing)
        for thing in [[[[[[[]]]]]], ("a", ["b", (None,)]), "a b\n~", [()], [[[]]]]:
            self.assert_bad("lengths", lengths=thing)
        for thing in [[[[]]], (((),),), [["a", ["b"]]], [[1]], [[True]], [[None]]]:
            self.assert_bad("loads", loads=thing)

    def test_the_first_wrong_part(self):
        self.assert_bad("answers", 1, 1, 1)
        self.assert_bad("lengths", (), 1, 1)
        self.assert_bad("answers", [1], [-1], ["a"])
        self.assert_bad("lengths", [True], [-1], ["a"])
        self.assert_bad("loads", [True], [1], ["a"])
        self.assert_bad("answers", loads=["a"], lengths=[-1], answers=[0])
        self.assert_bad("answers", [True] * 1001, [1] * 1001, [[]] * 1001)
        self.assert_bad("lengths", [True] * 1000, [1] * 1001, [[]] * 1001)


class JoinedTest(unittest.TestCase):
    def test_sums(self):
        one = Contents([True], [1, 2], [["a"]])
        other = Contents([False, True], [3], [[], ["b", "a"]])
        self.assertTrue(same(attributes(one + other), (
            (True, False, True), (1, 2, 3), (("a",), (), ("b", "a")))))
        self.assertTrue(same(attributes(other + one), (
            (False, True, True), (3, 1, 2), ((), ("b", "a"), ("a",)))))
        self.assertEqual(one + Contents(), one)
        self.assertEqual(Contents() + one, one)
        self.assertEqual(one, Contents([True], [1, 2], [["a"]]))
        self.assertEqual(other, Contents([False, True], [3], [[], ["b", "a"]]))

    def test_too_many_members_together(self):
        half = Contents([True] * 500, [1] * 500, [[]] * 500)
        self.assertEqual(len(half + half), 3000)
        more = {
            "answers": Contents([True] * 501, [1] * 501, [[]] * 501), "lengths": Contents([], [1] * 501, [[]] * 501),
            "loads": Contents([True], [1], [["a"]] * 501),
        }
        for part, other in more.items():
            for first, second in [(half, other), (other, half)]:
                with self.assertRaises(BadContents) as caught:
                    first + second
                self.assertEqual(caught.exception.part, part)
        self.assertEqual(len(half), 1500)

    def test_length(self):
        self.assertTrue(same(len(Contents()), 0))
        self.assertFalse(Contents())
        self.assertEqual(len(Contents([True], [1, 2], [["a"] * 9, [], []])), 6)
        self.assertEqual(len(Contents(loads=[[]])), 1)

    def test_equal(self):
        make = [
            Contents, lambda: Contents([True]), lambda: Contents([False]), lambda: Contents([True, True]),
            lambda: Contents([], [0]), lambda: Contents([], [1]), lambda: Contents([True], [1]),
            lambda: Contents([], [], [[]]), lambda: Contents([], [], [["a"]]), lambda: Contents([], [], [["a"], []]),
            lambda: Contents([], [], [["a", "b"]]), lambda: Contents([], [], [["b", "a"]]),
            lambda: Contents([True], [1], [["a"]]),
        ]
        for at, one in enumerate(make):
            for place, other in enumerate(make):
                self.assertIs(one() == other(), at == place)
                self.assertIs(one() != other(), at != place)
        for other in [*ODD_OBJECTS, World(), "- / - / -", ((), (), ()), Contents]:
            self.assertIs(Contents() == other, False)
            self.assertIs(other == Contents(), False)


class TextTest(unittest.TestCase):
    def assert_bad(self, line, text):
        with self.assertRaises(BadText, msg=text) as caught:
            Contents.read(text)
        self.assertTrue(same(caught.exception.line, line), text)

    def test_texts(self):
        for text, made in TEXTS.items():
            self.assertEqual(str(made), text)
            self.assertEqual(Contents.read(text), made)
            self.assertTrue(same(attributes(Contents.read(text)), attributes(made)))
            self.assertEqual(Contents.read(text=text), made)
            self.assertTrue(TEXT.fullmatch(text))

    def test_objects_that_are_no_strings(self):
        for bad in [*ODD_OBJECTS, *NO_NAMES, ["- / - / -"], ("-", "-", "-"), Contents()]:
            if not isinstance(bad, str):
                self.assert_bad(-1, bad)

    def test_strings_that_are_no_texts(self):
        for bad in [*ODD_OBJECTS, *NO_NAMES]:
            if isinstance(bad, str):
                self.assert_bad(0, bad)
        for bad in NO_TEXTS:
            self.assert_bad(0, bad)

    def test_too_many_members(self):
        self.assertEqual(len(Contents.read(" ".join(["yes"] * 1000) + " / - / -")), 1000)
        self.assertEqual(len(Contents.read("- / " + " ".join(["0"] * 1000) + " / -")), 1000)
        self.assertEqual(len(Contents.read("- / - / " + " ".join(["."] * 1000))), 1000)
        self.assertEqual(len(Contents.read("- / - / " + "+".join(["a"] * 100)).loads[0]), 100)
        self.assert_bad(0, " ".join(["yes"] * 1001) + " / - / -")
        self.assert_bad(0, "- / " + " ".join(["0"] * 1001) + " / -")
        self.assert_bad(0, "- / - / " + " ".join(["."] * 1001))
        self.assert_bad(0, "- / - / " + "+".join(["a"] * 101))

    def test_long_strings(self):
        for text in ["- / " + "9" * 19000 + " / -", " / " * 6000, "a" * 20000, "- / - / " + "a+" * 9000, "\n" * 20000,
                     "yes " * 5000, "1" * 20000]:
            self.assert_bad(0, text)

    def test_one_character_more_or_less(self):
        for text in TEXTS:
            for at in range(len(text) + 1):
                self.assert_as_the_pattern(text[:at] + text[at + 1:])
                for char in " -/+.01ayn\nA":
                    self.assert_as_the_pattern(text[:at] + char + text[at:])

    def test_words_at_random(self):
        chance = random.Random(29)
        words = ["yes", "no", "0", "1", "10", "07", str(MOST), "a", "a+b", ".", "-", "-", "/", "/", "/", "+", "", "b+"]
        for _ in range(3000):
            self.assert_as_the_pattern(" ".join([chance.choice(words) for _ in range(chance.randrange(5, 9))]))
        for _ in range(500):
            answers = chance.choices([True, False], k=chance.randrange(4))
            lengths = chance.choices([0, 1, 9, 10, 99, 10 ** 29, MOST], k=chance.randrange(4))
            loads = [chance.choices(NAMES, k=chance.randrange(4)) for _ in range(chance.randrange(4))]
            made = Contents(answers, lengths, loads)
            self.assertEqual(Contents.read(str(made)), made)
            self.assertTrue(TEXT.fullmatch(str(made)))

    def assert_as_the_pattern(self, text):
        """A text is read exactly if it fits the pattern and no number is too great; it is that of what was read."""
        is_text = bool(TEXT.fullmatch(text)) and all(int(word) <= MOST for word in re.findall("[0-9]+", text))
        try:
            made = Contents.read(text)
        except BadText as error:
            self.assertEqual((error.line, is_text), (0, False), text)
        else:
            self.assertTrue(is_text, text)
            self.assertEqual(str(made), text)
