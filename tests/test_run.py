"""The runner of the tests: it counts them, and fails if one fails or none ran."""

import contextlib
import io
import pathlib
import tempfile
import unittest

from tests import run

RIGHT = """
import unittest
from crosshomes.data import homes

class Right(unittest.TestCase):
    def test_one(self):
        self.assertEqual(homes(((), ("a",))), ("a",))

    def test_other(self):
        self.assertEqual(homes(((), ())), ())
"""
WRONG = RIGHT.replace('("a",))\n', '("b",))\n', 1)
LEFT_OUT = RIGHT.replace("    def test_one", "    @unittest.skip('later')\n    def test_one")
SURPRISE = RIGHT.replace("    def test_one", "    @unittest.expectedFailure\n    def test_one")


class Runner(unittest.TestCase):
    def run_on(self, *files):
        """The exit code and the last line for a folder with these files, each a name and a text."""
        with tempfile.TemporaryDirectory() as folder:
            for name, text in files:
                path = pathlib.Path(folder) / name
                path.parent.mkdir(exist_ok=True)
                path.write_text(text)
            with contextlib.redirect_stdout(io.StringIO()) as told:
                code = run.main([folder, pathlib.Path(folder) / "nowhere"])
        return code, told.getvalue().rstrip("\n").split("\n")[-1]

    def test_all_pass(self):
        self.assertEqual(self.run_on(("test_data.py", RIGHT)), (0, "2 passed, 0 failed"))
        self.assertEqual(self.run_on(("test_data.py", RIGHT), ("deep/test_data.py", RIGHT)), (0, "4 passed, 0 failed"))

    def test_one_fails(self):
        self.assertEqual(self.run_on(("test_a.py", RIGHT), ("test_b.py", WRONG)), (1, "3 passed, 1 failed"))
        self.assertEqual(self.run_on(("test_a.py", RIGHT), ("deep/test_b.py", WRONG)), (1, "3 passed, 1 failed"))

    def test_several_parts_of_one_test_fail(self):
        parts = RIGHT.replace("        self.assert", "        for _ in range(5):\n          with self.subTest():\n            self.assert")
        self.assertEqual(self.run_on(("test_a.py", parts)), (0, "2 passed, 0 failed"))
        wrong = parts.replace('("a",))\n', '("b",))\n')
        self.assertEqual(self.run_on(("test_a.py", wrong)), (1, "1 passed, 1 failed"))

    def test_left_out_and_unexpected(self):
        self.assertEqual(self.run_on(("test_a.py", LEFT_OUT)), (0, "1 passed, 0 failed, 1 skipped"))
        self.assertEqual(self.run_on(("test_a.py", SURPRISE)), (1, "1 passed, 1 failed"))

    def test_a_file_that_cannot_be_read(self):
        self.assertEqual(self.run_on(("test_a.py", "import crosshomes.nowhere\n"))[0], 1)
        self.assertEqual(self.run_on(("test_a.py", RIGHT), ("test_b.py", "def\n"))[0], 1)
        self.assertEqual(self.run_on(("test_a.py", RIGHT), ("test_b.py", "import os\nos._exit(3)\n"))[0], 1)

    def test_no_test_ran(self):
        self.assertEqual(self.run_on(), (1, "0 passed, 0 failed"))
        self.assertEqual(self.run_on(("test_a.py", "")), (1, "0 passed, 0 failed"))
        self.assertEqual(self.run_on(("data.py", RIGHT)), (1, "0 passed, 0 failed"))
        self.assertEqual(self.run_on(("test_a.py", RIGHT), ("test_b.py", "")), (0, "2 passed, 0 failed"))

    def test_where_it_looks(self):
        top = pathlib.Path(__file__).resolve().parent.parent
        self.assertEqual(run.FOLDERS, (top / "tests", top.parent / "shared" / "tests"))
        names = {path.name for path in run.test_files(top / "tests")}
        self.assertIn("test_run.py", names)
        self.assertNotIn("run.py", names)


if __name__ == "__main__":
    unittest.main()
