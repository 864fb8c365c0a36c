"""More rules for the language of the package: what stands where, which builtins and methods, sets, classes, names.

The checks are narrower than the rules where the package needs no more: so they find no fault in what they let through,
and a new way to write something is added here when it is needed.
"""

import ast
import builtins
import io
import re
import tokenize
import unittest
import warnings

from tests.test_language import package_files

STATEMENTS = (
    ast.Assign, ast.AugAssign, ast.If, ast.While, ast.For, ast.Return, ast.Break, ast.Continue, ast.Pass, ast.Raise,
    ast.Assert, ast.Delete, ast.Expr, ast.FunctionDef, ast.ClassDef, ast.ImportFrom, ast.Try,
)
BUILTINS = {
    "len", "range", "enumerate", "zip", "min", "max", "sum", "abs", "sorted", "reversed", "int", "str", "bool", "list",
    "tuple", "dict", "set", "isinstance", "ord", "repr", "any", "all", "divmod", "NotImplemented", "LookupError",
    "ValueError", "TypeError", "KeyError", "IndexError",
}
METHODS = {
    "append", "clear", "copy", "count", "endswith", "extend", "find", "get", "index", "insert", "isalnum", "isalpha",
    "isdigit", "islower", "isspace", "isupper", "items", "join", "keys", "ljust", "lower", "lstrip", "partition", "pop",
    "remove", "replace", "reverse", "rfind", "rjust", "rpartition", "rsplit", "rstrip", "setdefault", "split",
    "splitlines", "startswith", "strip", "update", "upper", "values", "zfill", "bit_length",
}
SPECIAL = {
    "__init__", "__eq__", "__repr__", "__str__", "__len__", "__call__", "__iter__", "__lt__", "__le__", "__gt__", "__ge__",
    "__add__", "__sub__", "__and__", "__or__", "__iadd__", "__bool__", "__contains__", "__getitem__", "__setitem__",
}
WITH_OTHER = {"__eq__", "__lt__", "__le__", "__gt__", "__ge__", "__add__", "__sub__", "__and__", "__or__", "__iadd__"}
KEYWORDS = {
    "sorted": {"key", "reverse"}, "min": {"key", "default"}, "max": {"key", "default"}, "sum": {"start"},
    "enumerate": {"start"}, "zip": {"strict"},
}
# L23: what is iterated at once, and by which calls.
AT_ONCE = {"zip", "enumerate", "reversed", "range"}
VIEWS = {"items", "keys", "values"}
TAKERS = {"list", "tuple", "dict", "sorted", "sum", "any", "all", "enumerate", "zip", "min", "max"}
COMPREHENSIONS = (ast.ListComp, ast.SetComp, ast.DictComp)
PLAIN = (ast.Constant, ast.Tuple, ast.List, ast.Dict, ast.UnaryOp, ast.USub, ast.Load)


def parents_of(tree):
    return {child: node for node in ast.walk(tree) for child in ast.iter_child_nodes(node)}


def called(node):
    """The name of the function that a call calls by its bare name, else ""."""
    return node.func.id if isinstance(node, ast.Call) and isinstance(node.func, ast.Name) else ""


def is_plain(node):
    return all(isinstance(part, PLAIN) for part in ast.walk(node))


def module_faults(tree):
    """L3: what stands at module level; L15: each name is bound once there."""
    faults, bound = [], []
    for at, node in enumerate(tree.body):
        if isinstance(node, (ast.FunctionDef, ast.ClassDef)):
            bound.append(node.name)
        elif isinstance(node, ast.ImportFrom):
            bound.extend(alias.asname or alias.name for alias in node.names)
        elif isinstance(node, ast.Assign) and len(node.targets) == 1 and isinstance(node.targets[0], ast.Name) and is_plain(node.value):
            bound.append(node.targets[0].id)
        elif at or not (isinstance(node, ast.Expr) and isinstance(node.value, ast.Constant)):
            faults.append((node.lineno, "L3"))
    return faults + [(0, f"L15 {name}") for name in sorted({name for name in bound if bound.count(name) > 1})]


def statement_faults(tree):
    """L6, L7 and L20: the kinds of statements and expressions."""
    faults = []
    for node in ast.walk(tree):
        if isinstance(node, ast.stmt) and not isinstance(node, STATEMENTS):
            faults.append((node.lineno, f"L6 {node.__class__.__name__}"))
        if isinstance(node, ast.Try) and node.finalbody:
            faults.append((node.lineno, "L6 finally"))
        if isinstance(node, (ast.GeneratorExp, ast.Await, ast.NamedExpr, ast.Div, ast.MatMult)):
            faults.append((getattr(node, "lineno", 0), f"L7 {node.__class__.__name__}"))
        if isinstance(node, ast.Constant) and isinstance(node.value, (float, complex, bytes)):
            faults.append((node.lineno, "L7 constant"))
        if isinstance(node, (*COMPREHENSIONS, ast.GeneratorExp)) and len(node.generators) > 6:
            faults.append((node.lineno, "L7 comprehension"))
        if isinstance(node, ast.Compare) and any(isinstance(sign, (ast.Is, ast.IsNot)) for sign in node.ops):
            if not any(isinstance(side, ast.Constant) and side.value in (None, True, False) for side in [node.left, *node.comparators]):
                faults.append((node.lineno, "L20"))
        if isinstance(node, ast.Pow):
            faults.append((0, "L27 exponent"))
    return faults


def function_faults(tree):
    """L4: decorators, parameters and default values."""
    faults = []
    methods = {id(node) for made in ast.walk(tree) if isinstance(made, ast.ClassDef) for node in made.body}
    for node in ast.walk(tree):
        if isinstance(node, ast.FunctionDef):
            words = [ast.unparse(one) for one in node.decorator_list]
            right = all(word in ("property", "staticmethod", "classmethod") or word == f"{node.name}.setter" for word in words)
            if words and (id(node) not in methods or not right or len(words) > 1):
                faults.append((node.lineno, "L4 decorator"))
            defaults = [one for one in [*node.args.defaults, *node.args.kw_defaults] if one is not None]
            if not all(is_plain(one) and not isinstance(one, (ast.List, ast.Dict)) for one in defaults):
                faults.append((node.lineno, "L4 default"))
            if id(node) in methods and (node.args.vararg or node.args.kwonlyargs) and not node.args.args:
                faults.append((node.lineno, "L4 first parameter"))
    return faults


def class_faults(tree):
    """L5: the bodies and methods of classes."""
    faults = []
    for made in [node for node in ast.walk(tree) if isinstance(node, ast.ClassDef)]:
        methods = {node.name: node for node in made.body if isinstance(node, ast.FunctionDef)}
        faults.extend((made.lineno, f"L5 {name}") for name in methods if name.startswith("__") and name not in SPECIAL)
        if made.decorator_list or made.keywords or not all(isinstance(node, (ast.FunctionDef, ast.Expr)) for node in made.body):
            faults.append((made.lineno, "L5 body"))
        if "__getitem__" in methods and "__iter__" not in methods:
            faults.append((made.lineno, "L5 __iter__"))
        for name in WITH_OTHER & set(methods):
            if [one.arg for one in methods[name].args.args] != ["self", "other"]:
                faults.append((methods[name].lineno, f"L5 {name}"))
        last = methods["__len__"].body[-1] if "__len__" in methods else None
        if last is not None and not (isinstance(last, ast.Return) and called(last.value) == "len"):
            faults.append((last.lineno, "L28 __len__"))
        for name in {"__eq__", "__lt__", "__le__", "__gt__", "__ge__"} & set(methods):
            first = f"if not isinstance(other, {made.name}):\n    return NotImplemented"
            if ast.unparse(methods[name].body[0]) != first or len(methods[name].body) != 2:
                faults.append((methods[name].lineno, f"L5 form of {name}"))
        values = [node for node in ast.walk(made) if isinstance(node, ast.Attribute) and isinstance(node.value, ast.Name)]
        assigned = {node.attr for node in values if node.value.id == "self" and isinstance(node.ctx, ast.Store)}
        faults.extend((made.lineno, f"L18 {name}") for name in sorted(assigned & set(methods)))
    return faults


def name_faults(tree):
    """L8, L12 and L15: which builtins are used, and which names are given."""
    faults = []
    imported = {alias.asname or alias.name for node in tree.body if isinstance(node, ast.ImportFrom) for alias in node.names}
    classes = {node.name for node in tree.body if isinstance(node, ast.ClassDef)}
    top = {node.name for node in tree.body if isinstance(node, (ast.FunctionDef, ast.ClassDef))}
    targets = [target for node in tree.body if isinstance(node, ast.Assign) for target in node.targets]
    top |= {target.id for target in targets if isinstance(target, ast.Name)}
    given = {node.id: node.lineno for node in ast.walk(tree) if isinstance(node, ast.Name) and isinstance(node.ctx, ast.Store)}
    given.update({node.arg: node.lineno for node in ast.walk(tree) if isinstance(node, ast.arg)})
    given.update({node.name: node.lineno for node in ast.walk(tree) if isinstance(node, ast.ExceptHandler) and node.name})
    nested = [node for outer in ast.walk(tree) if isinstance(outer, ast.FunctionDef) for node in ast.walk(outer)]
    given.update({node.name: node.lineno for node in nested if isinstance(node, ast.FunctionDef) and node.name not in top})
    for name, line in given.items():
        plain = re.fullmatch(r"_?[A-Za-z][A-Za-z0-9_]*|_", name) or re.fullmatch(r"__[a-z]+__", name)
        if name in imported | classes or hasattr(builtins, name) or not plain:
            method = name not in {node.id for node in ast.walk(tree) if isinstance(node, ast.Name)} and name.startswith("__")
            if not method:
                faults.append((line, f"L15 {name}"))
    for name in top:
        if hasattr(builtins, name):
            faults.append((0, f"L15 {name}"))
    for node in ast.walk(tree):
        if isinstance(node, ast.Name) and isinstance(node.ctx, ast.Load):
            if node.id == "_":
                faults.append((node.lineno, "L12 _ is read"))
            elif node.id not in imported | top | set(given) | BUILTINS | {"property", "staticmethod", "classmethod"}:
                faults.append((node.lineno, f"L8 {node.id}"))
    return faults


def own_methods(trees):
    return {node.name for tree in trees for made in ast.walk(tree) if isinstance(made, ast.ClassDef) for node in made.body if isinstance(node, ast.FunctionDef)}


def own_generators(trees):
    functions = [node for tree in trees for node in ast.walk(tree) if isinstance(node, ast.FunctionDef)]
    return {one.name for one in functions if any(isinstance(node, (ast.Yield, ast.YieldFrom)) for node in ast.walk(one))}


def call_faults(tree, methods, generators):
    """L22, L23 and L25: the calls of builtins, methods and generators; L7: stars in calls."""
    faults, above = [], parents_of(tree)
    for node in [one for one in ast.walk(tree) if isinstance(one, ast.Call)]:
        word = called(node)
        if word in BUILTINS and {key.arg for key in node.keywords} - KEYWORDS.get(word, set()):
            faults.append((node.lineno, f"L22 {word}"))
        method = node.func.attr if isinstance(node.func, ast.Attribute) else ""
        if method and method not in METHODS | methods:
            faults.append((node.lineno, f"L25 {method}"))
        if method in METHODS - methods and node.keywords:
            faults.append((node.lineno, f"L25 keywords of {method}"))
        if (word in AT_ONCE or word in generators or method in VIEWS) and not at_once(node, above):
            faults.append((node.lineno, f"L23 {word or method}"))
        if word in generators and not all(isinstance(one, (ast.Name, ast.Attribute, ast.Constant)) for one in node.args):
            faults.append((node.lineno, f"L23 beside {word}"))
        stars = [one for one in node.args if isinstance(one, ast.Starred)]
        if stars and not isinstance(stars[0].value, (ast.Name, ast.Attribute)):
            faults.append((node.lineno, "L7 star"))
    return faults


def at_once(node, above):
    """Whether a for, a comprehension or a call that takes it goes over what this call makes, on the spot."""
    parent = above[node]
    if isinstance(parent, (ast.For, ast.comprehension)):
        return parent.iter is node
    if isinstance(parent, ast.YieldFrom):
        return True
    return isinstance(parent, ast.Call) and (called(parent) in TAKERS and parent.args[0] is node or called(parent) == "zip")


def set_faults(tree):
    """L24: where sets stand; kept ones are not let through."""
    faults, above = [], parents_of(tree)
    for node in ast.walk(tree):
        if isinstance(node, (ast.Set, ast.SetComp)) or called(node) in ("set", "frozenset"):
            parent = above[node]
            behind_in = isinstance(parent, ast.Compare) and node in parent.comparators and isinstance(parent.ops[0], (ast.In, ast.NotIn))
            if called(parent) not in ("sorted", "len") and not behind_in:
                faults.append((node.lineno, "L24"))
    return faults


def changed_faults(tree):
    """L23: what a loop goes over is not changed in it."""
    faults = []
    loops = [node for node in ast.walk(tree) if isinstance(node, ast.For)]
    for loop in [node for node in loops if called(node.iter) not in ("list", "tuple", "sorted")]:
        over = {node.id for node in ast.walk(loop.iter) if isinstance(node, ast.Name)}
        for node in [one for row in loop.body for one in ast.walk(row)]:
            held = None
            if isinstance(node, ast.Call) and isinstance(node.func, ast.Attribute) and node.func.attr in ("append", "extend", "pop", "clear", "insert", "remove", "setdefault", "update"):
                held = node.func.value
            if isinstance(node, ast.Subscript) and not isinstance(node.ctx, ast.Load):
                held = node.value
            if isinstance(held, ast.Name) and held.id in over:
                faults.append((node.lineno, f"L23 {held.id} is changed"))
    return faults


def string_faults(text):
    """L27: what stands in strings."""
    faults = []
    for token in tokenize.generate_tokens(io.StringIO(text).readline):
        if token.type == tokenize.STRING:
            if "%" in token.string or re.search(r"\\[^nt\\'\"]", token.string) or re.search(r"\._{1,2}['\"]$", token.string):
                faults.append((token.start[0], "L27"))
    return faults


def faults_in(text, methods=frozenset(), generators=frozenset()):
    tree = ast.parse(text)
    return [
        *module_faults(tree), *statement_faults(tree), *function_faults(tree), *class_faults(tree), *name_faults(tree),
        *call_faults(tree, methods, generators), *set_faults(tree), *changed_faults(tree), *string_faults(text),
    ]


class ThePackage(unittest.TestCase):
    def test_keeps_to_the_rules(self):
        files = package_files()
        trees = [ast.parse(text) for text in files.values()]
        methods, generators = own_methods(trees), own_generators(trees)
        for name, text in files.items():
            with self.subTest(name=name):
                self.assertEqual(faults_in(text, methods, generators), [])

    def test_what_classes_lead_to(self):
        """L5, L25: with __eq__ no .sort(), with __getitem__ nothing called keys, and no object is gone over."""
        text = "\n".join(package_files().values())
        self.assertIsNone(re.search(r"\.sort\(|def keys|\.keys = ", text))
        for found in re.findall(r"def __iter__\(self\):\n(.*)\n", text):
            self.assertIn("raise TypeError(", found)

    def test_no_method_stands_twice(self):
        """L18, L23: a generator's name is no other function's, and no property's name is that of a method."""
        trees = [ast.parse(text) for text in package_files().values()]
        named = [node.name for tree in trees for node in ast.walk(tree) if isinstance(node, ast.FunctionDef)]
        for name in own_generators(trees):
            self.assertEqual(named.count(name), 1)
            self.assertNotIn(name, METHODS)

    def test_lines_for_which_python_warns(self):
        for name, text in package_files().items():
            with self.subTest(name=name), warnings.catch_warnings():
                warnings.simplefilter("error")
                compile(text, name, "exec")


class TheChecks(unittest.TestCase):
    """That the checks above find what they look for."""

    RIGHT = (
        '"""Told."""\nfrom crosshomes.data import homes\nLIMIT = 3\nNAMES = ("a", "b")\n',
        "def f(xs, *, by=-1):\n    return [x for x in zip(xs, range(by))]\n",
        "def f(xs):\n    return len(set(xs)), sorted({x for x in xs}), 3 in {1, 3}\n",
        "def f(xs):\n    for x, _ in list(xs):\n        xs.append(x)\n    return xs\n",
        "def f(x):\n    return x is None or x is not True\n",
        "def f(x):\n    return {**x, 'a': 1}, [*x, 2], max(x, key=lambda one: one, default=0)\n",
        "class A:\n    def __init__(self, n):\n        self._n = n\n\n    @property\n    def n(self):\n        return self._n\n",
        "class A:\n    def __eq__(self, other):\n        if not isinstance(other, A):\n            return NotImplemented\n        return self.n == other.n\n",
        "class A(ValueError):\n    \"\"\"Told.\"\"\"\n\n\ndef f(x):\n    try:\n        return g(x)\n    except A as why:\n        return why.n\n\n\ndef g(x):\n    raise A()\n",
    )
    WRONG = (
        "print(1)\n", "x = f\n", "x = 1\nx = 2\n", "a, b = 1, 2\n", "x = 1 + 2\n", "def f():\n    global x\n    return x\n",
        "def f():\n    try:\n        return 1\n    finally:\n        pass\n", "def f(xs):\n    return sum(x for x in xs)\n",
        "def f(x):\n    return x / 2\n", "def f():\n    return 1.5\n", "def f():\n    return b'a'\n", "def f(x, y):\n    return x is y\n",
        "def g(f):\n    return f\n\n\n@g\ndef f():\n    return 1\n", "def f(x=[]):\n    return x\n", "def f(x=f):\n    return x\n",
        "class A:\n    @staticmethod\n    def ring(*names):\n        return names\n", "class A:\n    n = []\n", "class A:\n    def __hash__(self):\n        return 1\n",
        "class A:\n    def __getitem__(self, at):\n        return at\n", "class A:\n    def __add__(self, more):\n        return more\n",
        "class A:\n    def __len__(self):\n        return self.n\n", "class A:\n    def __eq__(self, other):\n        return self.n == other.n\n",
        "class A:\n    def n(self):\n        self.n = 1\n", "def f():\n    return hash(1)\n", "def f(x):\n    return eval(x)\n",
        "from crosshomes.data import homes\n\n\ndef f(homes):\n    return homes\n", "def f():\n    min = 1\n    return min\n", "def next():\n    return 1\n",
        "class A:\n    pass\n\n\ndef f(A):\n    return A\n", "def f(_):\n    return _\n", "def f(x):\n    return int(x, base=2)\n", "def f(x):\n    return x.sort()\n",
        "def f(x):\n    return x.told()\n", "def f(x):\n    return x.split(sep=',')\n", "def f(x):\n    y = zip(x, x)\n    return y\n",
        "def f(x):\n    return x.items()\n", "def f(x):\n    return f(*list(x))\n", "def f(x):\n    y = set(x)\n    return y\n", "def f(x):\n    return {1, x}\n",
        "def f(xs):\n    for x in xs:\n        xs.append(x)\n    return xs\n", "def f(xs):\n    for x in enumerate(xs):\n        xs[0] = x\n    return xs\n",
        "X = '%'\n", "X = '\\x41'\n", "X = '._'\n", "def f(x):\n    return x ** x\n", "def __f(x):\n    return x\n\n\nx__ = __f\n",
    )

    def test_right(self):
        for text in self.RIGHT:
            with self.subTest(text=text):
                self.assertEqual(faults_in(text), [])

    def test_wrong(self):
        for text in self.WRONG:
            with self.subTest(text=text):
                self.assertNotEqual(faults_in(text), [])

    def test_generators(self):
        text = "def walk(xs):\n    yield from xs\n\n\ndef f(xs):\n    return {}\n"
        for use in ("[x for x in walk(xs)]", "list(walk(xs))", "sorted(walk(xs))"):
            self.assertEqual(faults_in(text.format(use), frozenset(), {"walk"}), [])
        for use in ("walk(xs)", "len(walk(xs))", "list(walk(list(xs)))", "3 in walk(xs)"):
            self.assertNotEqual(faults_in(text.format(use), frozenset(), {"walk"}), [])
        self.assertEqual(own_generators([ast.parse(text.format("xs"))]), {"walk"})


if __name__ == "__main__":
    unittest.main()
