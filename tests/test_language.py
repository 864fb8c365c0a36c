"""The package keeps to the rules for its language, as far as a script can tell."""

import ast
import io
import pathlib
import re
import tokenize
import unittest

PACKAGE = pathlib.Path(__file__).resolve().parent.parent / "crosshomes"

# L2: what may be imported besides the package's own names.
LIBRARY = {
    "heapq": {"heappush", "heappop", "heapify", "heapreplace", "heappushpop"},
    "math": {"gcd", "lcm", "isqrt", "comb", "perm", "factorial"},
    "itertools": {
        "product", "combinations", "permutations", "chain", "accumulate", "pairwise", "islice", "zip_longest",
    },
    "collections": {"defaultdict"},
    "__future__": {"annotations"},
}
# L17: not used anywhere as a name.
NOWHERE = {
    "register", "mro", "elements", "open", "input", "law", "version_info", "with_traceback", "add_note",
}
FRAMES = re.compile(r"(f|tb|co|gi|cr|ag)_[a-z]+$")
# L17: not the name of a variable, function, class, import, parameter, caught error or method.
NOT_BOUND = {
    "attrgetter", "breakpoint", "builtins", "compile", "copyright", "credits", "delattr", "dir", "eval", "exec",
    "exit", "gc", "getattr", "globals", "hasattr", "help", "id", "importlib", "license", "locals", "methodcaller",
    "os", "quit", "setattr", "super", "type", "vars", "sys", "__name__",
}
# L17: not in a file, but for comments and docstrings.
NOT_WORDS = {
    "type", "typing", "typing_extensions", "enum", "Enum", "IntEnum", "StrEnum", "Flag", "IntFlag", "Generic",
    "Protocol", "ABC", "ABCMeta", "namedtuple", "NamedTuple", "TypedDict", "TYPE_CHECKING", "abstractmethod",
}
NOT_INSIDE = ("dataclass", "overload", "contextmanager")
FILE_NAME = re.compile(r"[a-z0-9_]+\.py$")
BARRED_FILES = re.compile(r"(law_.*|tests?|testing|test_.*|site|conftest|sitecustomize|usercustomize)\.py$")


def size_faults(name, text):
    """L10."""
    lines = text.split("\n")
    faults = [f"{name}:{at}: L10 line" for at, line in enumerate(lines, 1) if len(line) > 120 or "\t" in line]
    if len(text.splitlines()) > 399:
        faults.append(f"{name}: L10 file")
    for node in ast.walk(ast.parse(text)):
        if isinstance(node, (ast.FunctionDef, ast.AsyncFunctionDef)):
            first = min([node.lineno, *[above.lineno for above in node.decorator_list]])
            if node.end_lineno - first + 1 > 40:
                faults.append(f"{name}:{node.lineno}: L10 function {node.name}")
    return faults


def character_faults(name, text):
    """L14."""
    lines = text.split("\n")
    return [f"{name}:{at}: L14" for at, line in enumerate(lines, 1) if not all(" " <= one <= "~" for one in line)]


def file_faults(names):
    """L1 and L14: the files of a folder, by their names."""
    wrong = [name for name in names if not FILE_NAME.match(name) or BARRED_FILES.match(name)]
    missing = [] if "__init__.py" in names else ["no __init__.py"]
    return [f"{name}: L14" for name in [*wrong, *missing]]


def defined_in(text):
    """What a file defines at module level."""
    found = set()
    for node in ast.parse(text).body:
        if isinstance(node, (ast.FunctionDef, ast.ClassDef)):
            found.add(node.name)
        if isinstance(node, ast.Assign):
            found.update(target.id for target in node.targets if isinstance(target, ast.Name))
    return found


def import_faults(name, text, files):
    """L2 and L16: files are the texts of all files of the package, by their names."""
    faults = []
    body = ast.parse(text).body
    first = 1 if body and isinstance(body[0], ast.Expr) and isinstance(body[0].value, ast.Constant) else 0
    at_top = []
    for node in body[first:]:
        if not isinstance(node, (ast.Import, ast.ImportFrom)):
            break
        at_top.append(node)
    for node in ast.walk(ast.parse(text)):
        if isinstance(node, ast.Import):
            faults.append(f"{name}:{node.lineno}: L16 import without from")
        if isinstance(node, ast.ImportFrom):
            if node.lineno not in [top.lineno for top in at_top]:
                faults.append(f"{name}:{node.lineno}: L2 not at the top")
            faults.extend(f"{name}:{node.lineno}: {why}" for why in wrong_names(node, files))
    return faults


def wrong_names(node, files):
    words = [alias.name for alias in node.names]
    if node.level or "*" in words:
        return ["L2 dot or star"]
    if node.module in LIBRARY:
        foreign = [word for word in words if word not in LIBRARY[node.module]]
        renamed = [alias.asname for alias in node.names if alias.asname]
        return [f"L2 {word}" for word in [*foreign, *renamed]]
    folder, _, file = node.module.partition(".")
    if folder != "crosshomes" or f"{file}.py" not in files or file == "__main__":
        return [f"L2 {node.module}"]
    return [f"L16 {word} is not defined there" for word in words if word not in defined_in(files[f"{file}.py"])]


def imported_files(text):
    modules = [node.module or "" for node in ast.walk(ast.parse(text)) if isinstance(node, ast.ImportFrom)]
    return {f"{module.partition('.')[2]}.py" for module in modules if module.startswith("crosshomes.")}


def circle_faults(files):
    """L16: no two files import from each other, neither directly nor through others."""
    faults = []
    for name in files:
        reached, fresh = set(), imported_files(files[name])
        while fresh:
            reached |= fresh
            fresh = {far for near in fresh for far in imported_files(files.get(near, ""))} - reached
        if name in reached:
            faults.append(f"{name}: L16 circle")
    return faults


def bound_names(node):
    """The names that a node gives to variables, functions, classes, imports, parameters and caught errors."""
    if isinstance(node, (ast.FunctionDef, ast.ClassDef, ast.ExceptHandler)):
        return [node.name] if node.name else []
    if isinstance(node, ast.arg):
        return [node.arg]
    if isinstance(node, ast.alias):
        return [node.asname or node.name]
    if isinstance(node, ast.Name) and not isinstance(node.ctx, ast.Load):
        return [node.id]
    return []


def used_names(node):
    if isinstance(node, ast.Name):
        return [node.id]
    if isinstance(node, ast.Attribute):
        return [node.attr]
    if isinstance(node, ast.keyword):
        return [node.arg] if node.arg else []
    return bound_names(node)


def docstring_lines(text):
    """The places at which docstrings begin."""
    found = set()
    for node in ast.walk(ast.parse(text)):
        if isinstance(node, (ast.Module, ast.FunctionDef, ast.ClassDef)) and ast.get_docstring(node) is not None:
            found.add((node.body[0].lineno, node.body[0].col_offset))
    return found


def word_faults(name, text):
    """L17."""
    faults = []
    for node in ast.walk(ast.parse(text)):
        at = getattr(node, "lineno", 0)
        faults.extend(f"{name}:{at}: L17 {word}" for word in used_names(node) if word in NOWHERE or FRAMES.match(word))
        faults.extend(f"{name}:{at}: L17 {word}" for word in bound_names(node) if word in NOT_BOUND)
    docstrings = docstring_lines(text)
    for token in tokenize.generate_tokens(io.StringIO(text).readline):
        if token.type == tokenize.COMMENT or token.start in docstrings:
            continue
        words = set(re.findall(r"\w+", token.string))
        barred = words & (NOT_WORDS - {"type"} if token.type == tokenize.STRING else NOT_WORDS)
        barred |= {word for word in NOT_INSIDE if word in token.string}
        faults.extend(f"{name}:{token.start[0]}: L17 {word}" for word in sorted(barred))
    return faults


def all_faults(files):
    faults = [*file_faults(files), *circle_faults(files)]
    for name, text in files.items():
        faults.extend(size_faults(name, text))
        faults.extend(character_faults(name, text))
        faults.extend(import_faults(name, text, files))
        faults.extend(word_faults(name, text))
    return faults


def package_files():
    """The texts of the files of the package; what is no file, but Python's own store, has None."""
    there = [path for path in PACKAGE.iterdir() if path.name != "__pycache__"]
    return {path.name: path.read_bytes().decode("utf-8") if path.is_file() else None for path in sorted(there)}


class ThePackage(unittest.TestCase):
    def test_holds_nothing_but_files(self):
        files = package_files()
        self.assertEqual([name for name, text in files.items() if text is None], [])
        listed = (
            "errors", "data", "plans", "swaps", "orders", "changes", "rings", "withdrawals", "days", "exchange", "texts", "desk",
        )
        for name in ("__init__.py", *[f"{word}.py" for word in listed]):
            self.assertIn(name, files)

    def test_keeps_to_the_rules(self):
        self.assertEqual(all_faults(package_files()), [])


class TheChecks(unittest.TestCase):
    """That the checks above find what they look for."""

    def test_sizes(self):
        long = "def f():\n" + "    x = 1\n" * 39
        self.assertEqual(size_faults("a.py", long), [])
        self.assertEqual(len(size_faults("a.py", long + "    return x\n")), 1)
        self.assertEqual(len(size_faults("a.py", "class A:\n    @property\n" + long.replace("\n", "\n    ").replace("def", "    def", 1))), 1)
        self.assertEqual(size_faults("a.py", "x = 1\n" * 399), [])
        self.assertEqual(len(size_faults("a.py", "x = 1\n" * 400)), 1)
        self.assertEqual(size_faults("a.py", "#" * 120 + "\n"), [])
        self.assertEqual(len(size_faults("a.py", "#" * 121 + "\n")), 1)
        self.assertEqual(len(size_faults("a.py", "if 1:\n\tx = 1\n")), 1)

    def test_characters(self):
        self.assertEqual(character_faults("a.py", "# ~ and blank\nx = 1\n"), [])
        for one in ("\u00e9", "\r", "\x7f", "\t", "\x0c"):
            with self.subTest(one=one):
                self.assertEqual(character_faults("a.py", f"x = 1\n# {one}\n"), ["a.py:2: L14"])

    def test_files(self):
        self.assertEqual(file_faults(["__init__.py", "days.py"]), [])
        for name in ("Days.py", "days.txt", "test_days.py", "site.py", "a-b.py", "tests.py"):
            with self.subTest(name=name):
                self.assertEqual(file_faults(["__init__.py", name]), [f"{name}: L14"])
        self.assertEqual(file_faults(["days.py"]), ["no __init__.py: L14"])

    def test_imports(self):
        files = {"a.py": "from crosshomes.b import g\n", "b.py": "def g():\n    return 1\nLIMIT = 3\n"}
        for line in (
            "from crosshomes.b import g", "from crosshomes.b import LIMIT, g", "from heapq import heappush",
            "from itertools import chain", "from __future__ import annotations",
        ):
            with self.subTest(line=line):
                self.assertEqual(import_faults("c.py", f'"""Told."""\n{line}\n', files), [])
        for line in (
            "import crosshomes.b", "from crosshomes import b", "from crosshomes.b import *", "from .b import g",
            "from crosshomes.b import h", "from crosshomes.a import g", "from crosshomes.d import g", "import random",
            "from random import random", "from heapq import nsmallest", "from heapq import heappush as push",
            "from crosshomes.__main__ import g", "x = 1\nfrom crosshomes.b import g",
            "def f():\n    from crosshomes.b import g\n    return g",
        ):
            with self.subTest(line=line):
                self.assertEqual(len(import_faults("c.py", f"{line}\n", files)), 1)

    def test_circles(self):
        files = {
            "a.py": "from crosshomes.b import g\n", "b.py": "from crosshomes.c import g\n",
            "c.py": "from crosshomes.a import g\n", "d.py": "from crosshomes.a import g\n",
        }
        self.assertEqual(circle_faults(files), ["a.py: L16 circle", "b.py: L16 circle", "c.py: L16 circle"])
        self.assertEqual(circle_faults({**files, "c.py": ""}), [])

    def test_words(self):
        for text in ('"""A type of open law."""\n', "# type, open\n", 'x = "type and open"\n', "reopened = 1\n", "x = id(3)\n"):
            with self.subTest(text=text):
                self.assertEqual(word_faults("a.py", text), [])
        for text in (
            "open = 1\n", "x = open\n", "x.open\n", "f(open=1)\n", "def open():\n    return 1\n", "x.mro\n",
            "def f(law):\n    return 1\n", "x.f_back\n", "id = 1\n", "def f(vars):\n    return 1\n", "x = Enum\n",
            'x = "Enum"\n', "x = typing\n", "x.type\n", "my_dataclass = 1\n", 'x = "overloaded"\n',
        ):
            with self.subTest(text=text):
                self.assertEqual(len(word_faults("a.py", text)), 1)


if __name__ == "__main__":
    unittest.main()
