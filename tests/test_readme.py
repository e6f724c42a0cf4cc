import doctest
import unittest
from pathlib import Path

README = Path(__file__).resolve().parent.parent / "README.md"


class ReadmeTest(unittest.TestCase):
    def test_every_module_is_told_of(self):
        text = README.read_text()
        for path in sorted((README.parent / "slitstairs").glob("*.py")):
            if path.stem != "__init__":
                self.assertIn(f"| `slitstairs.{path.stem}` |", text)

    def test_examples(self):
        found = doctest.testfile(str(README), module_relative=False, encoding="ascii")
        self.assertGreater(found.attempted, 5)
        self.assertEqual(found.failed, 0)
