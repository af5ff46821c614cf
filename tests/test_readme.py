"""The example of README.md."""

import doctest
import pathlib
import unittest

README = pathlib.Path(__file__).resolve().parent.parent / "README.md"


class ReadmeTest(unittest.TestCase):
    def test_example(self):
        blocks = README.read_text(encoding="utf-8").split("```")[1::2]
        examples = [block for block in blocks if ">>>" in block]
        self.assertTrue(examples)
        for block in examples:
            test = doctest.DocTestParser().get_doctest(block, {}, "README.md", "README.md", 0)
            self.assertEqual(doctest.DocTestRunner(verbose=False).run(test).failed, 0)
