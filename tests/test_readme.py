"""Tests that the examples of README.md return what stands beside them."""

import unittest
from pathlib import Path

README = Path(__file__).resolve().parent.parent / "README.md"


class Readme(unittest.TestCase):
    def test_examples(self):
        block = README.read_text(encoding="utf-8").split("```python\n")[1].split("```")[0]
        names = {}
        many = 0
        # Each line once and in turn, as the deeds of a bench change what comes behind them.
        for line in block.splitlines():
            code, _, want = line.partition("# ")
            if want:
                self.assertEqual(repr(eval(code, names)), want.strip(), code)
                many += 1
            else:
                exec(code, names)
        self.assertGreater(many, 25)


if __name__ == "__main__":
    unittest.main()
