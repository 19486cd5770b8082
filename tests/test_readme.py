"""The examples of the README give what stands behind them."""

import ast
import pathlib
import re

from tests.helpers import Case

README = pathlib.Path(__file__).resolve().parent.parent / "README.md"


def told_value(comment):
    """The value with which a comment begins, as a pair (there is one, the value)."""
    for end in range(len(comment), 0, -1):
        try:
            return True, ast.literal_eval(comment[:end].strip())
        except (ValueError, SyntaxError):
            pass
    return False, None


class Readme(Case):
    def test_examples(self):
        names = {}
        seen = 0
        for block in re.findall(r"```python\n(.*?)```", README.read_text(encoding="utf-8"), re.S):
            for row in block.splitlines():
                code, _, comment = row.partition("#")
                there, value = told_value(comment)
                if there:
                    self.exactly(eval(code, names), value)
                    seen += 1
                else:
                    exec(code, names)
        self.assertGreater(seen, 25)
