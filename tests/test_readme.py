"""The examples of README.md: they run, and give what their comments say."""

import ast
import contextlib
import io
import os
import re
import unittest

README = os.path.join(os.path.dirname(os.path.dirname(os.path.abspath(__file__))), "README.md")
VALUE = re.compile(r"# (?=[0-9'\[({]|True\b|False\b|None\b)")


def examples():
    """Return the blocks of Python in README.md."""
    with open(README, encoding="utf-8") as file:
        return re.findall(r"```python\n(.*?)```", file.read(), re.S)


class Examples(unittest.TestCase):
    def test_they_give_what_they_say(self):
        names = {}
        checked = 0
        for block in examples():
            lines = block.split("\n")
            for node in ast.parse(block).body:
                source = ast.get_source_segment(block, node)
                if not isinstance(node, ast.Expr):
                    with contextlib.redirect_stdout(io.StringIO()):
                        exec(source, names)
                    continue
                found = repr(eval(source, names))
                said = VALUE.split(lines[node.end_lineno - 1][node.end_col_offset:], maxsplit=1)
                if len(said) == 2:
                    self.assertTrue(said[1].startswith(found), (source, found, said[1]))
                    checked += 1
        self.assertGreater(checked, 25)


if __name__ == "__main__":
    unittest.main()
