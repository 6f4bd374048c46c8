"""The example in README.md shows what the program does."""

import doctest
import pathlib
import unittest

README = pathlib.Path(__file__).resolve().parent.parent / "README.md"


class ReadmeTest(unittest.TestCase):
    def test_example(self):
        text = README.read_text().replace("```", "")
        test = doctest.DocTestParser().get_doctest(text, {}, "README.md", str(README), 0)
        self.assertGreater(len(test.examples), 0)
        self.assertEqual(doctest.DocTestRunner(verbose=False).run(test).failed, 0)
