"""The examples of README.md."""

import doctest
import unittest
from pathlib import Path


class ReadmeTest(unittest.TestCase):
    def test_examples(self):
        path = Path(__file__).resolve().parent.parent / "README.md"
        # The fence behind an example would be taken for a part of what it prints.
        text = path.read_text(encoding="ascii").replace("```", "")
        test = doctest.DocTestParser().get_doctest(text, {}, "README.md", str(path), 0)
        self.assertGreater(len(test.examples), 8)
        told = []
        doctest.DocTestRunner().run(test, out=told.append)
        self.assertEqual("".join(told), "")


if __name__ == "__main__":
    unittest.main()
