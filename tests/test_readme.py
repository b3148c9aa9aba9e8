"""The examples of README.md tell what the program does."""

import os
import re
import unittest

ROOT = os.path.dirname(os.path.dirname(os.path.abspath(__file__)))


def examples():
    """The pairs (statement, what its comment tells or None) of all blocks, in order."""
    with open(os.path.join(ROOT, "README.md")) as file:
        text = file.read()
    rows = []
    for block in re.findall("```python\n(.*?)```", text, re.S):
        for line in block.split("\n"):
            code, _, told = line.partition("#")
            if code.strip():
                rows.append([code.rstrip(), told.strip() or None])
            elif told and rows[-1][1] is None:
                rows[-1][1] = told.strip()
    return rows


class Readme(unittest.TestCase):
    def test_examples(self):
        names, held = {}, 0
        for code, told in examples():
            if told is None or re.match(r"\w+ = |\w+, \w+ = ", code):
                exec(code, names)
                continue
            try:
                found = repr(eval(code, names))
            except Exception as error:
                found = f"{type(error).__name__}({', '.join(map(repr, error.args))})"
            self.assertTrue(told == found or told.startswith((found + ":", found + ",")), (code, told, found))
            held += 1
        self.assertGreater(held, 30)

    def test_each_module_of_the_interface_is_told(self):
        from test_interface import CLASSES, FUNCTIONS
        with open(os.path.join(ROOT, "README.md")) as file:
            text = file.read()
        for module in {**CLASSES, **FUNCTIONS}:
            self.assertIn(f"`{module}`", text)


if __name__ == "__main__":
    unittest.main()
