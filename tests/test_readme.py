"""Tests that the examples of README.md hold."""

import doctest
import unittest
from pathlib import Path

README = Path(__file__).resolve().parent.parent / "README.md"


class ReadmeTests(unittest.TestCase):
    def test_examples(self):
        text = README.read_text(encoding="utf-8").replace("```", "")
        examples = doctest.DocTestParser().get_doctest(text, {}, "README.md", str(README), 0)
        told = doctest.DocTestRunner().run(examples)
        self.assertGreater(told.attempted, 0)
        self.assertEqual(told.failed, 0)


if __name__ == "__main__":
    unittest.main()
