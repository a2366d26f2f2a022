"""Whether README.md's examples tell what it says they tell."""

import ast
import pathlib
import re
import unittest

README = pathlib.Path(__file__).resolve().parent.parent / "README.md"


class Examples(unittest.TestCase):
    def test_each_row(self):
        code = re.search(r"```python\n(.*?)```", README.read_text(encoding="utf-8"), re.DOTALL)[1]
        rows = code.split("\n")
        names = {}
        told = 0
        for part in ast.parse(code).body:
            source = ast.get_source_segment(code, part)
            if not isinstance(part, ast.Expr):
                exec(source, names)
                continue
            value = eval(source, names)
            expected = rows[part.end_lineno - 1][part.end_col_offset:].strip().removeprefix("# ")
            self.assertEqual(repr(value), expected or "None", source)
            told += 1
        self.assertGreater(told, 20)


if __name__ == "__main__":
    unittest.main()
