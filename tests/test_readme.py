"""Tests that the examples of README.md return what stands beside them."""

import unittest
from pathlib import Path

README = Path(__file__).resolve().parent.parent / "README.md"


class Readme(unittest.TestCase):
    def test_examples(self):
        block = README.read_text(encoding="utf-8").split("```python\n")[1].split("```")[0]
        names = {}
        exec(block, names)
        shown = [line.split("# ") for line in block.splitlines() if "# " in line]
        self.assertGreater(len(shown), 5)
        for code, want in shown:
            self.assertEqual(repr(eval(code, names)), want.strip(), code)


if __name__ == "__main__":
    unittest.main()
