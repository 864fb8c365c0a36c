"""Rules for objects and errors: operators and properties that change nothing, handlers, and the names of attributes.

As in test_language_more, the checks are narrower than the rules where the package needs no more.
"""

import ast
import re
import unittest

from crosshomes import errors
from tests.test_language import package_files
from tests.test_language_more import METHODS, SPECIAL

OWN_ERRORS = {word for word, value in vars(errors).items() if isinstance(value, type)}
# These may change something; all other operators, and properties that are read, do not.
CHANGING = {"__init__", "__setitem__", "__iadd__", "__call__"}
MODIFYING = {
    "append", "clear", "extend", "insert", "pop", "remove", "reverse", "setdefault", "update", "add", "discard", "sort",
}
BUILTIN_VALUES = (str, int, list, dict, set, tuple, bytes)


def functions_in(tree):
    return [node for node in ast.walk(tree) if isinstance(node, ast.FunctionDef)]


def classes_in(tree):
    return [node for node in ast.walk(tree) if isinstance(node, ast.ClassDef)]


def methods_of(made):
    return [node for node in made.body if isinstance(node, ast.FunctionDef)]


def decorators(method):
    return [ast.unparse(one) for one in method.decorator_list]


def is_setter(method):
    return decorators(method) == [f"{method.name}.setter"]


def own_calls(node):
    """The names of the attributes that are called off anything in a function."""
    calls = [one for one in ast.walk(node) if isinstance(one, ast.Call)]
    return {one.func.attr for one in calls if isinstance(one.func, ast.Attribute)}


def handler_faults(tree):
    """L19: a handler names one own error; the caught error is only asked for what it keeps, its name used once."""
    faults = []
    for function in functions_in(tree):
        handlers = [node for node in ast.walk(function) if isinstance(node, ast.ExceptHandler)]
        names = [node.name for node in handlers if node.name]
        bound = {node.id for node in ast.walk(function) if isinstance(node, ast.Name) and isinstance(node.ctx, ast.Store)}
        bound |= {node.arg for node in ast.walk(function) if isinstance(node, ast.arg)}
        read = [node.value for node in ast.walk(function) if isinstance(node, ast.Attribute) and node.attr != "args"]
        for node in handlers:
            if not (isinstance(node.type, ast.Name) and node.type.id in OWN_ERRORS):
                faults.append((node.lineno, "L19 handler"))
            if node.name and (names.count(node.name) > 1 or node.name in bound):
                faults.append((node.lineno, f"L19 {node.name} stands twice"))
        for node in ast.walk(function):
            if isinstance(node, ast.Name) and node.id in names and not any(node is one for one in read):
                faults.append((node.lineno, f"L19 {node.id} is used whole"))
    return faults


def raise_faults(tree):
    """L19: an error is created where it is raised; behind from stands None."""
    faults = []
    for node in [one for one in ast.walk(tree) if isinstance(one, ast.Raise)]:
        made = node.exc.func.id if isinstance(node.exc, ast.Call) and isinstance(node.exc.func, ast.Name) else ""
        if made not in OWN_ERRORS | {"TypeError"}:
            faults.append((node.lineno, "L19 raise"))
        if node.cause is not None and not (isinstance(node.cause, ast.Constant) and node.cause.value is None):
            faults.append((node.lineno, "L19 from"))
    return faults


def unchanging(made):
    """The operators and the read properties of a class, which change nothing."""
    operators = [node for node in methods_of(made) if node.name in SPECIAL - CHANGING]
    return [*operators, *[node for node in methods_of(made) if decorators(node) == ["property"]]]


def change_faults(tree):
    """L5, L28: an operator or a property assigns nothing but local names, and calls nothing that changes anything."""
    faults = []
    for method in [one for made in classes_in(tree) for one in unchanging(made)]:
        for node in ast.walk(method):
            stored = isinstance(node, (ast.Attribute, ast.Subscript)) and not isinstance(node.ctx, ast.Load)
            called_off = isinstance(node, ast.Call) and isinstance(node.func, ast.Name) and node.func.id in ("self", "other", "at", "x")
            if stored or called_off or isinstance(node, (ast.AugAssign, ast.Delete, ast.Try)):
                faults.append((node.lineno, f"L5 {method.name}"))
        if own_calls(method) & MODIFYING:
            faults.append((method.lineno, f"L5 {method.name} changes something"))
    return faults


def property_faults(trees):
    """L5: forms of properties; none is assigned in the package, and none has the name of a method or an attribute."""
    faults, names, methods = [], set(), set()
    for made in [made for tree in trees for made in classes_in(tree)]:
        for method in methods_of(made):
            if decorators(method) == ["property"] or is_setter(method):
                names.add(method.name)
                words = ["self", "value"] if is_setter(method) else ["self"]
                if [one.arg for one in method.args.args] != words:
                    faults.append((method.lineno, f"L5 form of {method.name}"))
            else:
                methods.add(method.name)
    faults.extend((0, f"L5 {name}") for name in sorted(names & methods))
    for node in [node for tree in trees for node in ast.walk(tree)]:
        if isinstance(node, ast.Attribute) and isinstance(node.ctx, ast.Store) and node.attr in names:
            if not (isinstance(node.value, ast.Name) and node.value.id == "self"):
                faults.append((node.lineno, f"L5 {node.attr} is assigned"))
    for made in [made for tree in trees for made in classes_in(tree)]:
        own = {method.name for method in methods_of(made)}
        for node in ast.walk(made):
            if isinstance(node, ast.Attribute) and isinstance(node.ctx, ast.Store) and node.attr in own:
                faults.append((node.lineno, f"L18 {node.attr}"))
    return faults


def class_use_faults(trees):
    """L18, L20: a class is called, and stands in isinstance, except and raise; no method is read off it."""
    faults = []
    classes = {made.name for tree in trees for made in classes_in(tree)} - OWN_ERRORS
    for tree in trees:
        right = []
        for node in ast.walk(tree):
            if isinstance(node, ast.Call):
                right.append(node.func)
                if isinstance(node.func, ast.Name) and node.func.id == "isinstance":
                    right.append(node.args[1])
        for node in ast.walk(tree):
            if isinstance(node, ast.Name) and node.id in classes and not any(node is one for one in right):
                faults.append((node.lineno, f"L18 {node.id}"))
    return faults


def sum_faults(trees):
    """L5: beside __iadd__ there is no += in what an operator or a property runs; here there is none at all."""
    found = [node for tree in trees for node in ast.walk(tree) if isinstance(node, ast.AugAssign)]
    beside = any(node.name == "__iadd__" for tree in trees for node in functions_in(tree))
    return [(node.lineno, "L5 +=") for node in found if beside]


def attribute_faults(trees):
    """L18, L26: attributes that are read are assigned somewhere, and no own name is one of Python's values."""
    faults = []
    nodes = [node for tree in trees for node in ast.walk(tree) if isinstance(node, ast.Attribute)]
    assigned = {node.attr for node in nodes if isinstance(node.ctx, ast.Store)}
    methods = {method.name for tree in trees for made in classes_in(tree) for method in methods_of(made)}
    for node in nodes:
        if node.attr not in assigned | methods | METHODS | {"setter"}:
            faults.append((node.lineno, f"L18 {node.attr}"))
    taken = {name for kind in BUILTIN_VALUES for name in dir(kind) if not name.startswith("__")}
    faults.extend((0, f"L26 {name}") for name in sorted((assigned | methods) & (taken - {"count", "index", "title", "find"})))
    return faults


def all_faults(texts):
    trees = [ast.parse(text) for text in texts]
    apart = [fault for tree in trees for fault in [*handler_faults(tree), *raise_faults(tree), *change_faults(tree)]]
    return [*apart, *property_faults(trees), *class_use_faults(trees), *sum_faults(trees), *attribute_faults(trees)]


class ThePackage(unittest.TestCase):
    def test_keeps_to_the_rules(self):
        self.assertEqual(all_faults(package_files().values()), [])

    def test_own_errors(self):
        self.assertEqual(len(OWN_ERRORS), 10)

    def test_nothing_at_module_level_is_changed(self):
        """L15: tables there are only read, by an item or in."""
        for name, text in package_files().items():
            tree = ast.parse(text)
            tables = {node.targets[0].id for node in tree.body if isinstance(node, ast.Assign)}
            for node in ast.walk(tree):
                if isinstance(node, ast.Subscript) and isinstance(node.value, ast.Name) and node.value.id in tables:
                    self.assertIsInstance(node.ctx, ast.Load, name)
            for word in tables:
                self.assertIsNone(re.search(rf"\b{word}\.|return {word}\b|\({word}\)", text))


class TheChecks(unittest.TestCase):
    RIGHT = (
        "def f(x):\n    try:\n        return g(x)\n    except Taken as why:\n        return why.name\n\n\ndef g(x):\n    raise Taken(x) from None\n",
        "class A:\n    def __init__(self, n):\n        self._n = n\n\n    @property\n    def n(self):\n        return self._n\n\n    @n.setter\n    def n(self, value):\n        self.become(value)\n\n    def become(self, value):\n        self._n = value\n",
        "class A:\n    def __iadd__(self, other):\n        self._n = other\n        return self\n\n\ndef f(x):\n    return isinstance(x, A) and A()\n",
    )
    WRONG = (
        "def f(x):\n    try:\n        return g(x)\n    except ValueError:\n        return x\n",
        "def f(x):\n    try:\n        return g(x)\n    except:\n        return x\n",
        "def f(x):\n    try:\n        return g(x)\n    except (Taken, Clash):\n        return x\n",
        "def f(x):\n    try:\n        return g(x)\n    except Taken as e:\n        return e\n",
        "def f(x):\n    try:\n        return g(x)\n    except Taken as x:\n        return x.name\n",
        "def f(x):\n    try:\n        return g(x)\n    except Taken as e:\n        return e.name\n    except Clash as e:\n        return e.name\n",
        "def f(x):\n    raise x\n", "def f(x):\n    raise f(x)\n", "def f(x):\n    raise ValueError(x)\n",
        "def f(x):\n    raise Taken(x) from x\n", "def f(x):\n    raise Taken\n",
        "class A:\n    def __len__(self):\n        self._n = 1\n        return len(self._n)\n",
        "class A:\n    def __contains__(self, x):\n        self._n.append(x)\n        return True\n\n    def __init__(self):\n        self._n = []\n",
        "class A:\n    def __add__(self, other):\n        return self(other)\n",
        "class A:\n    def __add__(self, other):\n        n = 1\n        n += other\n        return n\n",
        "class A:\n    @property\n    def n(self):\n        del self._n\n        return 1\n\n    def __init__(self):\n        self._n = []\n",
        "class A:\n    @property\n    def n(self):\n        return 1\n\n\nclass B:\n    def n(self):\n        return 1\n",
        "class A:\n    @property\n    def n(self):\n        return 1\n\n\ndef f(x):\n    x.n = 3\n",
        "class A:\n    @property\n    def n(self):\n        return 1\n\n    @n.setter\n    def n(self, other):\n        return None\n",
        "class A:\n    def n(self):\n        self.n = 3\n", "class A:\n    pass\n\n\ndef f():\n    return A\n",
        "class A:\n    def of(self):\n        return 1\n\n\ndef f(x):\n    return A.of(x)\n",
        "class A:\n    def __iadd__(self, other):\n        return self\n\n\ndef f(x):\n    x += 1\n    return x\n",
        "def f(x):\n    return x.far\n",
        "class A:\n    def upper_one(self):\n        return 1\n\n    def encode(self):\n        return 1\n",
    )

    def test_right(self):
        for text in self.RIGHT:
            with self.subTest(text=text):
                self.assertEqual(all_faults([text, "class Z:\n    def __init__(self):\n        self.name = 1\n"]), [])

    def test_wrong(self):
        for text in self.WRONG:
            with self.subTest(text=text):
                self.assertNotEqual(all_faults([text, "class Z:\n    def __init__(self):\n        self.name = 1\n"]), [])


if __name__ == "__main__":
    unittest.main()
