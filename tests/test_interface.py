"""The interface [15], the general rules [2] and the bounds [3]."""

import ast
import copy
import inspect
import itertools
import types
import unittest

from crosshomes import data, errors, plans, swaps
from crosshomes.plans import Plan
from tests.helper import CROWD, NOBODY, ODD_THINGS, SIX, lists, nested, raised

SIGNATURES = {
    data: """
        is_sheet(thing)
        households(sheet)
        homes(sheet)
        wants_of(sheet, name, *, idle=False)
        wanted_by(sheet, home)
        suits(sheet, one, other)
        suited_to(sheet, name)
        without(sheet, names)
        joined_by(sheet, name, wants)
        opened(sheet, home)
        """,
    plans: """
        is_part(thing)
        is_plan(sheet, plan)
        left_of(plan, gone)
        """,
    swaps: """
        suiting(sheet, *, without=())
        most_swaps(sheet, *, without=())
        least_swaps(sheet, *, without=())
        every_swaps(sheet, *, without=())
        parts_in(sheet, some, *, odd=None)
        kinds(sheet)
        leaves(sheet, name)
        partners(sheet, name)
        sure_swaps(sheet)
        idle_swaps(sheet)
        is_barrier(sheet, thing)
        """,
}
PLAN_METHODS = (
    "of", "ring", "row", "parts", "movers", "ends", "left", "text", "within", "__init__", "__call__", "__contains__",
    "__len__", "__bool__", "__eq__", "__lt__", "__le__", "__gt__", "__ge__", "__and__", "__or__", "__add__", "__sub__",
)
PLAN = Plan((("ann", "bob"), ""), (("cat", "dan", "eve"), ""), (("fay",), "new"))
# Each function with its arguments by their names, in order, and the word from which on they go by name alone.
CALLS = (
    (data.is_sheet, {"thing": SIX}, None),
    (data.households, {"sheet": SIX}, None),
    (data.homes, {"sheet": SIX}, None),
    (data.wants_of, {"sheet": SIX, "name": "cat"}, None),
    (data.wants_of, {"sheet": data.without(SIX, ("bob",)), "name": "cat", "idle": True}, "idle"),
    (data.wanted_by, {"sheet": SIX, "home": "cat"}, None),
    (data.suits, {"sheet": SIX, "one": "cat", "other": "dan"}, None),
    (data.suited_to, {"sheet": SIX, "name": "cat"}, None),
    (data.without, {"sheet": SIX, "names": ("bob", "cat")}, None),
    (data.joined_by, {"sheet": SIX, "name": "bea", "wants": ("ann", "zoe")}, None),
    (data.opened, {"sheet": SIX, "home": "big"}, None),
    (plans.is_part, {"thing": (("ann", "bob"), "")}, None),
    (plans.is_plan, {"sheet": SIX, "plan": PLAN}, None),
    (plans.left_of, {"plan": PLAN, "gone": ("ann", "zoe")}, None),
    (Plan.of, {"parts": PLAN.parts}, None),
    (PLAN, {"name": "fay"}, None),
    (PLAN.within, {"other": PLAN}, None),
    (swaps.suiting, {"sheet": SIX, "without": ("cat",)}, "without"),
    (swaps.most_swaps, {"sheet": SIX, "without": ("cat",)}, "without"),
    (swaps.least_swaps, {"sheet": SIX, "without": ("cat",)}, "without"),
    (swaps.every_swaps, {"sheet": SIX, "without": ("cat",)}, "without"),
    (swaps.suiting, {"sheet": SIX}, None),
    (swaps.most_swaps, {"sheet": SIX}, None),
    (swaps.least_swaps, {"sheet": SIX}, None),
    (swaps.every_swaps, {"sheet": SIX}, None),
    (swaps.parts_in, {"sheet": SIX, "some": ("ann", "bob", "dan", "fay"), "odd": False}, "odd"),
    (swaps.parts_in, {"sheet": SIX, "some": ("ann", "bob", "dan", "fay")}, None),
    (swaps.kinds, {"sheet": SIX}, None),
    (swaps.leaves, {"sheet": SIX, "name": "cat"}, None),
    (swaps.partners, {"sheet": SIX, "name": "cat"}, None),
    (swaps.sure_swaps, {"sheet": data.without(SIX, ("eve",))}, None),
    (swaps.idle_swaps, {"sheet": data.without(SIX, ("eve",))}, None),
    (swaps.is_barrier, {"sheet": SIX, "thing": ("bob",)}, None),
)


def value_of(found):
    """What a call returned, in a form that tells tuples from lists and True from 1."""
    if isinstance(found, types.GeneratorType):
        return repr(list(found))
    return repr(found.parts if isinstance(found, Plan) else found)


def by_position(call, given, star):
    behind = {word: value for word, value in given.items() if word == star}
    ahead = [value for word, value in given.items() if word != star]
    return call(*ahead, **behind)


def as_lists(given):
    """The arguments with lists for tuples; a thing with lists is another value, and stays as it is."""
    return {word: value if word == "thing" else lists(value) for word, value in given.items()}


class Interface(unittest.TestCase):
    def test_functions(self):
        for module, text in SIGNATURES.items():
            for line in text.split("\n"):
                word = line.strip().partition("(")[0]
                if word:
                    with self.subTest(line=line.strip()):
                        found = vars(module)[word]
                        self.assertEqual(word + str(inspect.signature(found)), line.strip())
                        self.assertEqual(found.__module__, module.__name__)

    def test_each_stands_in_its_file(self):
        for module, text in SIGNATURES.items():
            tree = ast.parse(inspect.getsource(module))
            defined = {node.name for node in tree.body if isinstance(node, (ast.FunctionDef, ast.ClassDef))}
            self.assertLessEqual({line.strip().partition("(")[0] for line in text.strip().split("\n")}, defined)
        self.assertEqual(Plan.__module__, "crosshomes.plans")

    def test_the_class_plan(self):
        for word in PLAN_METHODS:
            with self.subTest(word=word):
                self.assertIn(word, vars(Plan))
        self.assertIsInstance(vars(Plan)["of"], classmethod)
        self.assertIsInstance(vars(Plan)["ring"], staticmethod)
        self.assertIsInstance(vars(Plan)["row"], staticmethod)
        for word in ("parts", "movers", "ends", "left", "text"):
            self.assertIsInstance(vars(Plan)[word], property)
            self.assertIsNone(vars(Plan)[word].fset)
        self.assertEqual(str(inspect.signature(Plan)), "(*parts)")
        self.assertEqual(Plan.row(*["x", "b", "a"]), (("b", "a"), "x"))
        self.assertEqual(Plan.ring(*["b", "a"]), (("a", "b"), ""))

    def test_kinds_of_values(self):
        self.assertIsInstance(PLAN.text, str)
        for found in (PLAN.parts, PLAN.movers, PLAN.ends, PLAN.left, Plan.ring("b", "a"), Plan.row("x", "a")):
            self.assertIs(found.__class__, tuple)
        for found in (PLAN & PLAN, PLAN | PLAN, PLAN - "ann", PLAN + Plan(), Plan.of([]), plans.left_of(PLAN, [])):
            self.assertIs(found.__class__, Plan)

    def test_calls_cover_the_interface(self):
        called = {call.__name__ for call, _, _ in CALLS if isinstance(call, types.FunctionType)}
        listed = {line.strip().partition("(")[0] for text in SIGNATURES.values() for line in text.strip().split("\n")}
        self.assertEqual(called, listed)


class GeneralRules(unittest.TestCase):
    def test_by_position_and_by_name(self):
        for call, given, star in CALLS:
            with self.subTest(given=given):
                self.assertEqual(value_of(by_position(call, given, star)), value_of(call(**given)))

    def test_behind_a_star_by_name_alone(self):
        for call, given, star in CALLS:
            if star:
                with self.subTest(given=given):
                    self.assertEqual(raised(lambda: value_of(call(*given.values()))), (TypeError, {}))

    def test_lists_for_tuples(self):
        for call, given, star in CALLS:
            with self.subTest(given=given):
                expected = value_of(call(**given))
                self.assertEqual(value_of(call(**as_lists(given))), expected)
                self.assertEqual(value_of(by_position(call, as_lists(given), star)), expected)
                for word in given:
                    mixed = {**given, word: as_lists(given)[word]}
                    self.assertEqual(value_of(call(**mixed)), expected)

    def test_arguments_are_not_changed(self):
        for call, given, _ in CALLS:
            for used in (given, as_lists(given)):
                with self.subTest(given=used):
                    before = copy.deepcopy(used)
                    value_of(call(**used))
                    self.assertEqual(used, before)
                    self.assertEqual(repr(lists([one for one in used.values() if not isinstance(one, Plan)])),
                                     repr(lists([one for one in before.values() if not isinstance(one, Plan)])))

    def test_the_same_call_again(self):
        for call, given, _ in CALLS:
            with self.subTest(given=given):
                self.assertEqual(value_of(call(**given)), value_of(call(**given)))

    def test_lists_that_are_returned_are_new(self):
        found_lists = 0
        for call, given, _ in CALLS:
            found = call(**given)
            if isinstance(found, list):
                with self.subTest(given=given):
                    found_lists += 1
                    kept = list(found)
                    found.append("more")
                    self.assertEqual(call(**given), kept)
                    self.assertIsNot(call(**given), call(**given))
        self.assertEqual(found_lists, 6)

    def test_only_suiting_parts_and_pairs_are_lists(self):
        lists_of = {call.__name__ for call, given, _ in CALLS if isinstance(call(**given), list)}
        self.assertEqual(lists_of, {"suiting", "parts_in", "sure_swaps", "idle_swaps"})

    def test_returned_values_may_be_passed_in_again(self):
        sheet = data.opened(data.joined_by(data.without(SIX, ("fay",)), "gus", ("new",)), "old")
        self.assertTrue(data.is_sheet(sheet))
        for pair in swaps.suiting(sheet):
            self.assertTrue(data.suits(sheet, *pair))
        for part in swaps.parts_in(sheet, data.households(sheet)):
            self.assertEqual(swaps.parts_in(sheet, part), [part])
        staying, hold, _ = swaps.kinds(sheet)
        self.assertTrue(swaps.is_barrier(sheet, hold))
        self.assertEqual(swaps.most_swaps(sheet, without=staying), swaps.most_swaps(data.without(sheet, staying)))
        for chosen in swaps.every_swaps(sheet):
            self.assertTrue(plans.is_plan(sheet, Plan.of([Plan.ring(*pair) for pair in chosen])))

    def test_answers_of_yes_and_no(self):
        asked = (data.is_sheet, plans.is_part, plans.is_plan, swaps.is_barrier, data.suits, PLAN.within)
        for call, given, _ in CALLS:
            if call in asked:
                with self.subTest(given=given):
                    self.assertIs(call(**given), True)

    def test_things_of_all_kinds(self):
        many = (*ODD_THINGS, nested(12), lists(nested(12)), "a" * 1000, -(10 ** 60), [Plan()], ((Plan(), Plan()), Plan()))
        for thing in many:
            with self.subTest(thing=thing):
                self.assertIs(data.is_sheet(thing), False)
                self.assertIs(plans.is_part(thing), False)
                self.assertIs(swaps.is_barrier(SIX, thing), False)

    def test_things_within_things(self):
        # None of these is a tuple of NAMEs, a tuple of rows or an end, so that no frame makes it right.
        for inner in (0, 1, True, None, [], ["a"], [()], ("A",), (0,), (("a",),), nested(11), Plan(), (Plan(),)):
            for thing in ((inner, ()), ((), inner), ((("a", inner),), ()), (((inner, ()),), ()), ((("a", (inner,)),), ())):
                with self.subTest(thing=thing):
                    self.assertIs(data.is_sheet(thing), False)
            for thing in ((inner, ""), (inner, "b"), (("a", inner), ""), ((inner,), "b"), (("c",), inner), (("a", "c"), inner)):
                with self.subTest(thing=thing):
                    self.assertIs(plans.is_part(thing), False)
            for thing in (inner, (inner,), ("ann", inner), (inner, "ann")):
                with self.subTest(thing=thing):
                    self.assertIs(swaps.is_barrier(SIX, thing), False)

    def test_bounds(self):
        """8 households and 3 empty homes, and somewhat beyond."""
        self.assertTrue(data.is_sheet(CROWD))
        self.assertEqual(len(data.homes(CROWD)), 11)
        names = "abcdefghij"
        beyond = (tuple((name, tuple(other for other in names if other != name)) for name in names), tuple("vwxyz"))
        self.assertTrue(data.is_sheet(beyond))
        self.assertEqual(swaps.most_swaps(beyond), 10)
        self.assertEqual(swaps.kinds(beyond), ((), (), tuple(names)))
        self.assertEqual(swaps.most_swaps(data.without(beyond, ("a",))), 8)

    def test_errors_leave_objects_unchanged(self):
        plan = Plan(*PLAN.parts)
        for call in (lambda: plan + PLAN, lambda: plan | Plan((("ann",), "x"))):
            self.assertEqual(raised(call)[0], errors.Clash)
            self.assertEqual(plan.parts, PLAN.parts)

    def test_errors_with_lists_and_names(self):
        six = lists(SIX)
        for sheet, kept in itertools.product((six, SIX), (("bea", "zoe"), ["bea", "zoe"])):
            calls = (
                lambda: data.without(sheet=sheet, names=kept),
                lambda: data.suits(sheet=sheet, one="bea", other="zoe"),
                lambda: swaps.suiting(sheet=sheet, without=kept),
                lambda: swaps.parts_in(sheet=sheet, some=kept),
                lambda: swaps.leaves(sheet=sheet, name="bea"),
            )
            for call in calls:
                self.assertEqual(raised(call), (errors.NoHousehold, {"name": "bea"}))


if __name__ == "__main__":
    unittest.main()
