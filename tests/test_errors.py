"""The error classes of errors.py [2]."""

import unittest

from quietprobes import errors
from tests.samples import ODD_OBJECTS

ATTRIBUTES = {
    "BadName": "name", "BadDeed": "deed", "BadRow": "number", "BadPlace": "place", "BadMode": "mode",
    "BadContents": "part", "BadTurn": "turn", "BadPair": "pair", "BadText": "line", "BadCommand": "command",
    "NoThing": "name", "NoKey": "key", "NoPart": "name", "NoRow": "number", "NoProbe": "name",
    "NotNested": "name", "Twice": "name", "Unmatched": "number", "TooMany": "limit",
}
BARE = ["Watched", "Over"]


class ErrorsTest(unittest.TestCase):
    def test_argument_is_kept_as_the_attribute(self):
        for name, attribute in ATTRIBUTES.items():
            made = getattr(errors, name)
            for thing in ODD_OBJECTS:
                with self.subTest(error=name, thing=thing):
                    self.assertIs(getattr(made(thing), attribute), thing)
                    self.assertIs(getattr(made(**{attribute: thing}), attribute), thing)
                    self.assertEqual(list(vars(made(thing))), [attribute])

    def test_argument_is_asked_for(self):
        for name in ATTRIBUTES:
            with self.subTest(error=name), self.assertRaises(TypeError):
                getattr(errors, name)()

    def test_message_is_a_string(self):
        for name in ATTRIBUTES:
            for thing in ODD_OBJECTS:
                with self.subTest(error=name, thing=thing):
                    self.assertIn(repr(thing), str(getattr(errors, name)(thing)))
        for name in BARE:
            self.assertTrue(str(getattr(errors, name)()))

    def test_bare_errors_take_nothing(self):
        for name in BARE:
            with self.subTest(error=name):
                self.assertEqual(vars(getattr(errors, name)()), {})
                with self.assertRaises(TypeError):
                    getattr(errors, name)(1)

    def test_each_stands_directly_under_quiet_error(self):
        self.assertEqual(errors.QuietError.__bases__, (ValueError,))
        for name in [*ATTRIBUTES, *BARE]:
            with self.subTest(error=name):
                made = getattr(errors, name)
                self.assertEqual(made.__bases__, (errors.QuietError,))
                self.assertTrue(issubclass(made, ValueError))

    def test_none_is_of_another_class(self):
        names = [*ATTRIBUTES, *BARE]
        for name in names:
            made = getattr(errors, name)() if name in BARE else getattr(errors, name)("a")
            kinds = [other for other in names if isinstance(made, getattr(errors, other))]
            self.assertEqual(kinds, [name])

    def test_they_are_raised_and_caught(self):
        with self.assertRaises(errors.QuietError) as caught:
            raise errors.TooMany(8)
        self.assertEqual(caught.exception.limit, 8)

    def test_all_are_defined_here(self):
        classes = [x for x in vars(errors).values() if isinstance(x, type)]
        self.assertEqual(sorted(x.__name__ for x in classes), sorted(["QuietError", *ATTRIBUTES, *BARE]))
        self.assertEqual({x.__module__ for x in classes}, {"quietprobes.errors"})
