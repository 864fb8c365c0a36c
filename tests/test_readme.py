"""The examples of README.md: each value that stands behind a line is the one that the line has."""

import pathlib
import re
import unittest

README = pathlib.Path(__file__).resolve().parent.parent / "README.md"


def statements(block):
    """The statements of a block, with what stands in a comment behind each one."""
    found, rows = [], ""
    for row in block.split("\n"):
        code, _, told = row.partition(" # ")
        rows += code.rstrip() + "\n"
        try:
            compile(rows, "README.md", "exec")
        except SyntaxError:
            continue
        found.append((rows.strip(), told))
        rows = ""
    return [(code, told) for code, told in found if code]


class Readme(unittest.TestCase):
    def test_examples(self):
        space, compared = {}, 0
        for block in re.findall(r"```python\n(.*?)```", README.read_text(), re.DOTALL):
            for code, told in statements(block):
                with self.subTest(code=code):
                    if told:
                        self.assertTrue(f"{told}:".startswith(f"{eval(code, space)!r}:"))
                        compared += 1
                    else:
                        exec(code, space)
        self.assertEqual(compared, 57)


if __name__ == "__main__":
    unittest.main()
