"""What README.md says of its examples holds: each comment behind a value is what it comes to."""

import ast
import re
import unittest
from pathlib import Path

from kinddeeds.errors import DeedsError

README = Path(__file__).resolve().parent.parent / "README.md"


def blocks():
    return re.findall(r"```python\n(.*?)```", README.read_text(), re.DOTALL)


def remark_of(lines, last):
    """The remark on the last line of a statement, or on the one behind it."""
    for line in lines[last - 1:last + 1]:
        if "#" in line:
            return line.split("#", 1)[1].strip()
    return None


def outcome(code, names):
    try:
        return repr(eval(code, names))
    except DeedsError as error:
        return f"{type(error).__name__}, with the place {error.place}"


class Examples(unittest.TestCase):
    def test_each_comes_to_what_is_said(self):
        names, checked = {}, 0
        for block in blocks():
            for statement in ast.parse(block).body:
                code = ast.unparse(statement)
                if not isinstance(statement, ast.Expr):
                    exec(code, names)
                    continue
                said = remark_of(block.split("\n"), statement.end_lineno)
                told = outcome(code, names)
                self.assertEqual(told, said if "place" in told else repr(ast.literal_eval(said)), code)
                checked += 1
        self.assertGreater(checked, 30)


if __name__ == "__main__":
    unittest.main()
