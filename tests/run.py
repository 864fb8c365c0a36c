"""Runs every test of the project, and every test that stands under ../shared/tests.

Each file runs in a process of its own, so that files of one name in two folders do not meet. The last line tells how
many tests passed and failed; the exit code is 0 only if at least one test ran and none failed.
"""

import pathlib
import re
import subprocess
import sys

TOP = pathlib.Path(__file__).resolve().parent.parent
FOLDERS = (TOP / "tests", TOP.parent / "shared" / "tests")


def test_files(folder):
    """The files test_*.py in a folder and all folders in it; none if there is no such folder."""
    return sorted(pathlib.Path(folder).rglob("test_*.py"))


def counted(output, code):
    """How many tests passed, failed and were skipped, by the output and the exit code of unittest."""
    ran = sum(int(many) for many in re.findall(r"^Ran (\d+) tests? in ", output, re.MULTILINE))
    # A test with several failing parts is told once for each of them, and counts once.
    told = set(re.findall(r"^(?:FAIL|ERROR|UNEXPECTED SUCCESS): (\S+ \(.*?\))", output, re.MULTILINE))
    skipped = sum(int(many) for many in re.findall(r"^(?:OK|FAILED) \(.*skipped=(\d+).*\)$", output, re.MULTILINE))
    no_tests = code == 5 and ran == 0
    failed = len(told) if code == 0 or no_tests else max(len(told), 1)
    return max(ran - failed - skipped, 0), failed, skipped


def run_file(path):
    """The output and the exit code of the tests in one file."""
    folder = str(path.parent)
    words = [sys.executable, "-m", "unittest", "discover", "-s", folder, "-t", folder, "-p", path.name]
    done = subprocess.run(words, cwd=TOP, stdin=subprocess.DEVNULL, stdout=subprocess.PIPE, stderr=subprocess.STDOUT)
    return done.stdout.decode("utf-8", "replace"), done.returncode


def run_all(folders):
    """The numbers of tests that passed, failed and were skipped in all folders; prints what happens."""
    sums = (0, 0, 0)
    for path in [path for folder in folders for path in test_files(folder)]:
        output, code = run_file(path)
        counts = counted(output, code)
        if counts[1]:
            print(output)
        print(f"{path}: {counts[0]} right, {counts[1]} wrong, {counts[2]} left out", flush=True)
        sums = tuple(one + more for one, more in zip(sums, counts))
    return sums


def main(folders):
    passed, failed, skipped = run_all(folders)
    print(f"{passed} passed, {failed} failed" + (f", {skipped} skipped" if skipped else ""))
    return 0 if passed and not failed else 1


if __name__ == "__main__":
    sys.exit(main(FOLDERS))
