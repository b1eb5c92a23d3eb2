import doctest
import unittest
from pathlib import Path

README = Path(__file__).resolve().parent.parent / "README.md"


class Readme(unittest.TestCase):
    def test_examples(self):
        # doctest would take the line that ends a block for a part of the last result.
        text = "\n".join(["" if line.startswith("```") else line for line in README.read_text().split("\n")])
        test = doctest.DocTestParser().get_doctest(text, {}, "README", str(README), 0)
        self.assertGreater(len(test.examples), 10)
        self.assertEqual(doctest.DocTestRunner(verbose=False).run(test).failed, 0)
