"""The interface [15], the general rules [2] and the bounds [3]."""

import ast
import copy
import inspect
import itertools
import types
import unittest

from crosshomes import changes, data, days, desk, errors, exchange, orders, plans, rings, swaps, texts, withdrawals
from crosshomes.days import Calendar
from crosshomes.exchange import Exchange
from crosshomes.orders import Order
from crosshomes.plans import Plan
from crosshomes.rings import Prices
from tests.helper import CROWD, ODD_THINGS, PRICES, SIX, lists, nested, raised

SIGNATURES = {
    data: """
        is_sheet(thing)
        households(sheet)
        homes(sheet)
        wants_of(sheet, name, *, idle=False)
        wanted_by(sheet, home)
        suits(sheet, one, other)
        suited_to(sheet, name)
        without(sheet, names)
        joined_by(sheet, name, wants)
        opened(sheet, home)
        """,
    plans: """
        is_part(thing)
        is_plan(sheet, plan)
        left_of(plan, gone)
        """,
    swaps: """
        suiting(sheet, *, without=())
        most_swaps(sheet, *, without=())
        least_swaps(sheet, *, without=())
        every_swaps(sheet, *, without=())
        parts_in(sheet, some, *, odd=None)
        kinds(sheet)
        leaves(sheet, name)
        partners(sheet, name)
        sure_swaps(sheet)
        idle_swaps(sheet)
        is_barrier(sheet, thing)
        """,
    orders: """
        can_move(sheet, some)
        most_of(sheet, some)
        why_not(sheet, some)
        is_why_not(sheet, some, thing)
        kept(sheet, order, *, first=())
        walk(sheet, order)
        why_left(sheet, order, name)
        pushed_out(sheet, order, name)
        by_classes(sheet, classes)
        sure_in(sheet, classes)
        maybe_in(sheet, classes)
        more_from(sheet, some, other)
        worth(sheet, worths)
        """,
    changes: """
        gain_by_household(sheet, suits)
        gain_by_pair(sheet, one, other)
        helping_pairs(sheet)
        fewest_pairs(sheet)
        loss_by_household(sheet, name)
        loss_by_pair(sheet, one, other)
        can_leave(sheet, some)
        most_leaving(sheet, some)
        gain_by_wish(sheet, name, home)
        loss_by_wish(sheet, name, home)
        gain_by_empty(sheet, wanting)
        loss_by_empty(sheet, empty)
        cap_by_wish(sheet, prices, name, home)
        cap_by_empty(sheet, prices, wanting)
        """,
    rings: """
        most_any(sheet, *, rows=True)
        any_plan(sheet, *, rows=True)
        prices_of(sheet)
        are_prices(sheet, thing)
        gains(sheet)
        fewest_extras(sheet)
        crowd(sheet)
        worth_of(sheet, empty)
        surely_moves(sheet)
        may_move(sheet)
        surely_take(sheet)
        may_take(sheet)
        move_together(sheet, names)
        why_stuck(sheet, names)
        kept_any(sheet, order)
        with_fewest(sheet, name)
        with_part(sheet, name)
        most_rings(sheet, *, longest=3)
        rings_plan(sheet, *, longest=3)
        """,
    withdrawals: """
        safe_for(plan, many)
        worst_gone(plan, many)
        weak_ones(plan)
        safest(sheet, many)
        safest_plan(sheet, many)
        rest_sheet(sheet, plan, *, gone)
        most_repaired(sheet, plan, *, gone)
        repair(sheet, plan, *, gone)
        fewest_told(sheet, plan, *, gone)
        calmest(sheet, plan, *, gone)
        told_prices(sheet, plan, *, gone)
        are_told_prices(sheet, plan, thing, *, gone)
        """,
    days: """
        meeting_sheet(sheet, calendar, *, first=0, last=None)
        most_between(sheet, calendar, *, first=0, last=None)
        daily_swaps(sheet, calendar)
        are_daily_swaps(sheet, calendar, thing)
        latest_start(sheet, calendar)
        earliest_end(sheet, calendar)
        day_by_day(sheet, calendar, order)
        fewest_days(sheet, calendar)
        days_for(sheet, calendar)
        apart(sheet, calendar)
        are_apart(sheet, calendar, thing)
        best_day(sheet, calendar)
        """,
    texts: """
        sheet_text(sheet)
        sheet_in(text)
        plan_in(text)
        """,
    desk: """
        answers(text)
        """,
}
# Of each class its file, how it is made, its methods (those that Python calls by signs, too) and its properties.
CLASSES = (
    (
        Plan, plans, "(*parts)",
        ("of", "ring", "row", "within", "__init__", "__call__", "__contains__", "__len__", "__bool__", "__eq__", "__lt__", "__le__",
         "__gt__", "__ge__", "__and__", "__or__", "__add__", "__sub__"),
        ("parts", "movers", "ends", "left", "text"),
    ),
    (
        Order, orders, "(names)",
        ("ahead", "__init__", "__getitem__", "__setitem__", "__len__", "__contains__", "__eq__"),
        ("line",),
    ),
    (
        Prices, rings, "(households, homes)",
        ("__init__", "__getitem__", "__call__", "__len__", "__eq__"),
        ("total", "pairs"),
    ),
    (
        Calendar, days, "(stays)",
        ("always", "meet", "__init__", "__getitem__", "__setitem__", "__contains__", "__len__", "__bool__", "__call__", "__add__",
         "__iadd__", "__and__", "__eq__"),
        ("stays", "days"),
    ),
    (
        Exchange, exchange, "(sheet=((), ()), *, bound=2)",
        ("leave", "offer", "close", "change", "plan", "run", "attempt", "undo", "twin", "__init__", "__getitem__", "__setitem__",
         "__contains__", "__len__", "__eq__"),
        ("bound", "order", "sheet", "plans"),
    ),
)
# The properties that can be set.
SETTABLE = ((Exchange, "bound"), (Exchange, "order"))
METHODS = (
    (Plan.within, "(self, other)"), (Plan.of, "(parts)"), (Order.ahead, "(self, one, other)"), (Calendar.always, "(sheet, come, go)"),
    (Calendar.meet, "(self, one, other)"), (Calendar.__call__, "(self, day, but=())"), (Exchange.leave, "(self, name)"),
    (Exchange.offer, "(self, home)"), (Exchange.close, "(self, home)"), (Exchange.change, "(self, word, value)"),
    (Exchange.plan, "(self)"), (Exchange.run, "(self, *, gone=())"), (Exchange.attempt, "(self, deeds)"), (Exchange.undo, "(self)"),
    (Exchange.twin, "(self)"),
)
PLAN = Plan((("ann", "bob"), ""), (("cat", "dan", "eve"), ""), (("fay",), "new"))
LINE = ("fay", "dan", "ann", "cat", "eve", "bob")
GROUPS = (("ann", "cat", "dan", "eve"), (), ("bob", "fay"))
FIVE = data.without(SIX, ("fay",))
SIX_PRICES = rings.prices_of(SIX)
TOLD = withdrawals.told_prices(SIX, PLAN, gone=("cat", "fay"))
STAYS = (("ann", 0, 2), ("bob", 2, 5), ("cat", 1, 4), ("dan", 4, 6), ("eve", 6, 8), ("fay", 3, 9))
CALENDAR = Calendar(STAYS)
# Each function with its arguments by their names, in order, and the word from which on they go by name alone.
CALLS = (
    (data.is_sheet, {"thing": SIX}, None),
    (data.households, {"sheet": SIX}, None),
    (data.homes, {"sheet": SIX}, None),
    (data.wants_of, {"sheet": SIX, "name": "cat"}, None),
    (data.wants_of, {"sheet": data.without(SIX, ("bob",)), "name": "cat", "idle": True}, "idle"),
    (data.wanted_by, {"sheet": SIX, "home": "cat"}, None),
    (data.suits, {"sheet": SIX, "one": "cat", "other": "dan"}, None),
    (data.suited_to, {"sheet": SIX, "name": "cat"}, None),
    (data.without, {"sheet": SIX, "names": ("bob", "cat")}, None),
    (data.joined_by, {"sheet": SIX, "name": "bea", "wants": ("ann", "zoe")}, None),
    (data.opened, {"sheet": SIX, "home": "big"}, None),
    (plans.is_part, {"thing": (("ann", "bob"), "")}, None),
    (plans.is_plan, {"sheet": SIX, "plan": PLAN}, None),
    (plans.left_of, {"plan": PLAN, "gone": ("ann", "zoe")}, None),
    (Plan.of, {"parts": PLAN.parts}, None),
    (PLAN, {"name": "fay"}, None),
    (PLAN.within, {"other": PLAN}, None),
    (swaps.suiting, {"sheet": SIX, "without": ("cat",)}, "without"),
    (swaps.most_swaps, {"sheet": SIX, "without": ("cat",)}, "without"),
    (swaps.least_swaps, {"sheet": SIX, "without": ("cat",)}, "without"),
    (swaps.every_swaps, {"sheet": SIX, "without": ("cat",)}, "without"),
    (swaps.suiting, {"sheet": SIX}, None),
    (swaps.most_swaps, {"sheet": SIX}, None),
    (swaps.least_swaps, {"sheet": SIX}, None),
    (swaps.every_swaps, {"sheet": SIX}, None),
    (swaps.parts_in, {"sheet": SIX, "some": ("ann", "bob", "dan", "fay"), "odd": False}, "odd"),
    (swaps.parts_in, {"sheet": SIX, "some": ("ann", "bob", "dan", "fay")}, None),
    (swaps.kinds, {"sheet": SIX}, None),
    (swaps.leaves, {"sheet": SIX, "name": "cat"}, None),
    (swaps.partners, {"sheet": SIX, "name": "cat"}, None),
    (swaps.sure_swaps, {"sheet": data.without(SIX, ("eve",))}, None),
    (swaps.idle_swaps, {"sheet": data.without(SIX, ("eve",))}, None),
    (swaps.is_barrier, {"sheet": SIX, "thing": ("bob",)}, None),
    (orders.can_move, {"sheet": SIX, "some": ("ann", "eve")}, None),
    (orders.most_of, {"sheet": SIX, "some": ("ann", "cat", "dan", "eve")}, None),
    (orders.why_not, {"sheet": SIX, "some": ("ann", "cat", "dan", "eve")}, None),
    (orders.is_why_not, {"sheet": SIX, "some": ("ann", "cat", "dan", "eve"), "thing": ("bob",)}, None),
    (orders.kept, {"sheet": SIX, "order": LINE, "first": ("eve", "fay")}, "first"),
    (orders.kept, {"sheet": SIX, "order": LINE}, None),
    (orders.walk, {"sheet": SIX, "order": LINE}, None),
    (orders.why_left, {"sheet": SIX, "order": LINE, "name": "eve"}, None),
    (orders.pushed_out, {"sheet": SIX, "order": LINE, "name": "eve"}, None),
    (orders.by_classes, {"sheet": SIX, "classes": GROUPS}, None),
    (orders.sure_in, {"sheet": SIX, "classes": GROUPS}, None),
    (orders.maybe_in, {"sheet": SIX, "classes": GROUPS}, None),
    (orders.more_from, {"sheet": SIX, "some": ("cat", "dan", "eve"), "other": ("ann", "bob")}, None),
    (orders.worth, {"sheet": SIX, "worths": (5, 1, 2, 2, 3, 9)}, None),
    (Order, {"names": LINE}, None),
    (Order(LINE).ahead, {"one": ("cat", "fay"), "other": ("ann",)}, None),
    (changes.gain_by_household, {"sheet": SIX, "suits": ("ann", "bob")}, None),
    (changes.gain_by_pair, {"sheet": SIX, "one": "fay", "other": "ann"}, None),
    (changes.helping_pairs, {"sheet": SIX}, None),
    (changes.fewest_pairs, {"sheet": SIX}, None),
    (changes.loss_by_household, {"sheet": SIX, "name": "bob"}, None),
    (changes.loss_by_pair, {"sheet": FIVE, "one": "bob", "other": "ann"}, None),
    (changes.can_leave, {"sheet": SIX, "some": ("ann", "fay")}, None),
    (changes.most_leaving, {"sheet": SIX, "some": ("cat", "dan", "eve")}, None),
    (changes.gain_by_wish, {"sheet": FIVE, "name": "ann", "home": "new"}, None),
    (changes.loss_by_wish, {"sheet": SIX, "name": "fay", "home": "new"}, None),
    (changes.gain_by_empty, {"sheet": (SIX[0], ()), "wanting": ("ann", "fay")}, None),
    (changes.loss_by_empty, {"sheet": SIX, "empty": "new"}, None),
    (changes.cap_by_wish, {"sheet": SIX, "prices": SIX_PRICES, "name": "fay", "home": "ann"}, None),
    (changes.cap_by_empty, {"sheet": SIX, "prices": SIX_PRICES, "wanting": ("ann", "fay")}, None),
    (rings.most_any, {"sheet": SIX, "rows": False}, "rows"),
    (rings.most_any, {"sheet": SIX}, None),
    (rings.any_plan, {"sheet": SIX, "rows": False}, "rows"),
    (rings.any_plan, {"sheet": SIX}, None),
    (rings.prices_of, {"sheet": SIX}, None),
    (rings.are_prices, {"sheet": SIX, "thing": SIX_PRICES}, None),
    (rings.gains, {"sheet": (SIX[0], ())}, None),
    (rings.fewest_extras, {"sheet": (SIX[0], ())}, None),
    (rings.crowd, {"sheet": (SIX[0], ())}, None),
    (rings.worth_of, {"sheet": SIX, "empty": "new"}, None),
    (rings.surely_moves, {"sheet": SIX}, None),
    (rings.may_move, {"sheet": SIX}, None),
    (rings.surely_take, {"sheet": SIX}, None),
    (rings.may_take, {"sheet": SIX}, None),
    (rings.move_together, {"sheet": SIX, "names": ("ann", "fay")}, None),
    (rings.why_stuck, {"sheet": (SIX[0], ()), "names": ("fay",)}, None),
    (rings.kept_any, {"sheet": (SIX[0], ()), "order": LINE}, None),
    (rings.with_fewest, {"sheet": SIX, "name": "dan"}, None),
    (rings.with_part, {"sheet": SIX, "name": "dan"}, None),
    (rings.most_rings, {"sheet": SIX, "longest": 2}, "longest"),
    (rings.most_rings, {"sheet": SIX}, None),
    (rings.rings_plan, {"sheet": SIX, "longest": 2}, "longest"),
    (rings.rings_plan, {"sheet": SIX}, None),
    (Prices, {"households": (("ann", 1), ("bob", -2)), "homes": (("ann", 0),)}, None),
    (SIX_PRICES, {"name": "new"}, None),
    (withdrawals.safe_for, {"plan": PLAN, "many": 1}, None),
    (withdrawals.worst_gone, {"plan": PLAN, "many": 2}, None),
    (withdrawals.weak_ones, {"plan": PLAN}, None),
    (withdrawals.safest, {"sheet": FIVE, "many": 1}, None),
    (withdrawals.safest_plan, {"sheet": FIVE, "many": 1}, None),
    (withdrawals.rest_sheet, {"sheet": SIX, "plan": PLAN, "gone": ("bob", "cat")}, "gone"),
    (withdrawals.most_repaired, {"sheet": SIX, "plan": PLAN, "gone": ("bob", "cat")}, "gone"),
    (withdrawals.repair, {"sheet": SIX, "plan": PLAN, "gone": ("bob", "cat")}, "gone"),
    (withdrawals.fewest_told, {"sheet": SIX, "plan": PLAN, "gone": ("bob", "cat")}, "gone"),
    (withdrawals.calmest, {"sheet": SIX, "plan": PLAN, "gone": ("bob", "cat")}, "gone"),
    (withdrawals.told_prices, {"sheet": SIX, "plan": PLAN, "gone": ("bob", "cat")}, "gone"),
    (withdrawals.are_told_prices, {"sheet": SIX, "plan": PLAN, "thing": TOLD, "gone": ("cat", "fay")}, "gone"),
    (Calendar, {"stays": STAYS}, None),
    (Calendar.always, {"sheet": SIX, "come": 3, "go": 7}, None),
    (CALENDAR, {"day": 4, "but": ("cat", "zoe")}, None),
    (CALENDAR, {"day": 4}, None),
    (CALENDAR.meet, {"one": "bob", "other": "cat"}, None),
    (days.meeting_sheet, {"sheet": SIX, "calendar": CALENDAR}, None),
    (days.meeting_sheet, {"sheet": SIX, "calendar": CALENDAR, "last": 4}, "last"),
    (days.most_between, {"sheet": SIX, "calendar": CALENDAR}, None),
    (days.most_between, {"sheet": SIX, "calendar": CALENDAR, "first": 3}, "first"),
    (days.most_between, {"sheet": SIX, "calendar": CALENDAR, "last": 0}, "last"),
    (days.daily_swaps, {"sheet": SIX, "calendar": CALENDAR}, None),
    (days.are_daily_swaps, {"sheet": SIX, "calendar": CALENDAR, "thing": ((2, "ann", "bob"), (4, "cat", "dan"))}, None),
    (days.latest_start, {"sheet": SIX, "calendar": CALENDAR}, None),
    (days.earliest_end, {"sheet": SIX, "calendar": CALENDAR}, None),
    (days.day_by_day, {"sheet": SIX, "calendar": CALENDAR, "order": LINE}, None),
    (days.fewest_days, {"sheet": SIX, "calendar": CALENDAR}, None),
    (days.days_for, {"sheet": SIX, "calendar": CALENDAR}, None),
    (days.apart, {"sheet": SIX, "calendar": CALENDAR}, None),
    (days.are_apart, {"sheet": SIX, "calendar": CALENDAR, "thing": (("ann", "bob"), ("cat", "dan"), ("dan", "eve"))}, None),
    (days.best_day, {"sheet": SIX, "calendar": CALENDAR}, None),
    (Exchange, {"sheet": SIX, "bound": None}, "bound"),
    (Exchange, {"sheet": SIX}, None),
    (Exchange, {"bound": 3}, "bound"),
    (texts.sheet_text, {"sheet": SIX}, None),
    (texts.sheet_in, {"text": "ann: bob zoe\nbob:\n+ new"}, None),
    (texts.plan_in, {"text": "ann>bob>ann; fay>new"}, None),
    (desk.answers, {"text": "ann: bob\nbob: ann\n\nplan\nmost"}, None),
)
# What return lists.
LISTS = {
    "suiting", "parts_in", "sure_swaps", "idle_swaps", "by_classes", "helping_pairs", "surely_take", "may_take",
    "day_by_day", "answers",
}


def value_of(found):
    """What a call returned, in a form that tells tuples from lists and True from 1."""
    if isinstance(found, types.GeneratorType):
        return repr(list(found))
    if isinstance(found, OBJECTS):
        return repr((found.__class__.__name__, held_by(found)))
    return repr(found)


OBJECTS = (Plan, Order, Prices, Calendar, Exchange)


def held_by(thing):
    """What an object of the package holds."""
    if isinstance(thing, Plan):
        return thing.parts
    if isinstance(thing, Calendar):
        return thing.stays
    if isinstance(thing, Exchange):
        return thing.sheet, thing.order, thing.bound, [plan.parts for plan in thing.plans]
    return thing.line if isinstance(thing, Order) else thing.pairs


def shown(value):
    """A value of arguments with what the objects among them hold, to see whether it changes."""
    return repr([held_by(one) if isinstance(one, OBJECTS) else one for one in value.values()])


def by_position(call, given, star):
    behind = {word: value for word, value in given.items() if word == star}
    ahead = [value for word, value in given.items() if word != star]
    return call(*ahead, **behind)


def as_lists(given):
    """The arguments with lists for tuples; a thing with lists is another value, and stays as it is."""
    return {word: value if word == "thing" else lists(value) for word, value in given.items()}


class Interface(unittest.TestCase):
    def test_functions(self):
        for module, text in SIGNATURES.items():
            for line in text.split("\n"):
                word = line.strip().partition("(")[0]
                if word:
                    with self.subTest(line=line.strip()):
                        found = vars(module)[word]
                        self.assertEqual(word + str(inspect.signature(found)), line.strip())
                        self.assertEqual(found.__module__, module.__name__)

    def test_each_stands_in_its_file(self):
        for module, text in SIGNATURES.items():
            tree = ast.parse(inspect.getsource(module))
            defined = {node.name for node in tree.body if isinstance(node, (ast.FunctionDef, ast.ClassDef))}
            self.assertLessEqual({line.strip().partition("(")[0] for line in text.strip().split("\n")}, defined)

    def test_classes(self):
        for made, module, words, methods, properties in CLASSES:
            self.assertEqual((made.__module__, str(inspect.signature(made))), (module.__name__, words))
            tree = ast.parse(inspect.getsource(module))
            self.assertIn(made.__name__, [node.name for node in tree.body if isinstance(node, ast.ClassDef)])
            for word in (*methods, *properties):
                with self.subTest(made=made, word=word):
                    self.assertIn(word, vars(made))
            for word in properties:
                self.assertIsInstance(vars(made)[word], property)
                self.assertIs(vars(made)[word].fset is not None, (made, word) in SETTABLE)

    def test_methods(self):
        for method, words in METHODS:
            with self.subTest(method=method):
                self.assertEqual(str(inspect.signature(method)), words)
        listed = {method.__name__ for method, _ in METHODS} | {"ring", "row", "__init__"}
        for made, _, _, methods, _ in CLASSES:
            self.assertLessEqual({word for word in methods if not word.startswith("__")}, listed)

    def test_the_class_plan(self):
        self.assertIsInstance(vars(Plan)["of"], classmethod)
        self.assertIsInstance(vars(Plan)["ring"], staticmethod)
        self.assertIsInstance(vars(Plan)["row"], staticmethod)
        self.assertEqual(Plan.row(*["x", "b", "a"]), (("b", "a"), "x"))
        self.assertEqual(Plan.ring(*["b", "a"]), (("a", "b"), ""))

    def test_kinds_of_values(self):
        self.assertIsInstance(PLAN.text, str)
        for found in (PLAN.parts, PLAN.movers, PLAN.ends, PLAN.left, Plan.ring("b", "a"), Plan.row("x", "a")):
            self.assertIs(found.__class__, tuple)
        for found in (PLAN & PLAN, PLAN | PLAN, PLAN - "ann", PLAN + Plan(), Plan.of([]), plans.left_of(PLAN, [])):
            self.assertIs(found.__class__, Plan)

    def test_kinds_of_values_of_orders_and_prices(self):
        for found in (Order(list(LINE)).line, SIX_PRICES.pairs, *SIX_PRICES.pairs, TOLD, *TOLD):
            self.assertIs(found.__class__, tuple)
        for found in (Order(LINE)["ann"], SIX_PRICES["ann"], SIX_PRICES("new"), SIX_PRICES.total, len(SIX_PRICES)):
            self.assertIs(found.__class__, int)
        plan_calls = {"any_plan", "rings_plan", "safest_plan", "repair", "calmest"}
        for call, given, _ in CALLS:
            if isinstance(call, types.FunctionType) and call.__name__ in plan_calls:
                self.assertIs(call(**given).__class__, Plan)

    def test_calls_cover_the_interface(self):
        called = {call.__name__ for call, _, _ in CALLS if isinstance(call, types.FunctionType)}
        listed = {line.strip().partition("(")[0] for text in SIGNATURES.values() for line in text.strip().split("\n")}
        self.assertEqual(called, listed)


class GeneralRules(unittest.TestCase):
    def test_by_position_and_by_name(self):
        for call, given, star in CALLS:
            with self.subTest(given=given):
                self.assertEqual(value_of(by_position(call, given, star)), value_of(call(**given)))

    def test_behind_a_star_by_name_alone(self):
        for call, given, star in CALLS:
            if star:
                with self.subTest(given=given):
                    self.assertEqual(raised(lambda: value_of(call(*given.values()))), (TypeError, {}))

    def test_lists_for_tuples(self):
        for call, given, star in CALLS:
            with self.subTest(given=given):
                expected = value_of(call(**given))
                self.assertEqual(value_of(call(**as_lists(given))), expected)
                self.assertEqual(value_of(by_position(call, as_lists(given), star)), expected)
                for word in given:
                    mixed = {**given, word: as_lists(given)[word]}
                    self.assertEqual(value_of(call(**mixed)), expected)

    def test_arguments_are_not_changed(self):
        for call, given, _ in CALLS:
            for used in (given, as_lists(given)):
                with self.subTest(given=used):
                    before = shown(copy.deepcopy(used))
                    value_of(call(**used))
                    self.assertEqual(shown(used), before)

    def test_the_same_call_again(self):
        for call, given, _ in CALLS:
            with self.subTest(given=given):
                self.assertEqual(value_of(call(**given)), value_of(call(**given)))

    def test_lists_that_are_returned_are_new(self):
        for call, given, _ in CALLS:
            found = call(**given)
            if isinstance(found, list):
                with self.subTest(given=given):
                    kept = list(found)
                    found.append("more")
                    self.assertEqual(call(**given), kept)
                    self.assertIsNot(call(**given), call(**given))

    def test_which_are_lists(self):
        lists_of = {call.__name__ for call, given, _ in CALLS if isinstance(call(**given), list)}
        self.assertEqual(lists_of, LISTS)

    def test_returned_values_may_be_passed_in_again(self):
        sheet = data.opened(data.joined_by(data.without(SIX, ("fay",)), "gus", ("new",)), "old")
        self.assertTrue(data.is_sheet(sheet))
        for pair in swaps.suiting(sheet):
            self.assertTrue(data.suits(sheet, *pair))
        for part in swaps.parts_in(sheet, data.households(sheet)):
            self.assertEqual(swaps.parts_in(sheet, part), [part])
        staying, hold, _ = swaps.kinds(sheet)
        self.assertTrue(swaps.is_barrier(sheet, hold))
        self.assertEqual(swaps.most_swaps(sheet, without=staying), swaps.most_swaps(data.without(sheet, staying)))
        for chosen in swaps.every_swaps(sheet):
            self.assertTrue(plans.is_plan(sheet, Plan.of([Plan.ring(*pair) for pair in chosen])))

    def test_answers_of_yes_and_no(self):
        asked = (
            data.is_sheet, plans.is_part, plans.is_plan, swaps.is_barrier, data.suits, PLAN.within, orders.can_move,
            orders.is_why_not, changes.can_leave, rings.are_prices, rings.move_together, withdrawals.are_told_prices,
            days.are_daily_swaps, days.are_apart,
        )
        for call, given, _ in CALLS:
            if call in asked:
                with self.subTest(given=given):
                    self.assertIs(call(**given), True)

    def test_things_of_all_kinds(self):
        many = (
            *ODD_THINGS, nested(12), lists(nested(12)), "a" * 1000, -(10 ** 60), [Plan()], ((Plan(), Plan()), Plan()),
            [PRICES], ((PRICES, PRICES), PRICES), (Plan(), PRICES), SIX_PRICES.pairs,
        )
        for thing in many:
            with self.subTest(thing=thing):
                self.assertIs(data.is_sheet(thing), False)
                self.assertIs(plans.is_part(thing), False)
                self.assertIs(swaps.is_barrier(SIX, thing), False)
                self.assertIs(orders.is_why_not(SIX, ("ann", "cat", "dan", "eve"), thing), False)
                self.assertIs(rings.are_prices(SIX, thing), False)
                self.assertIs(withdrawals.are_told_prices(SIX, PLAN, thing, gone=()), False)
                self.assertIs(days.are_daily_swaps(SIX, CALENDAR, thing), False)
                self.assertIs(days.are_apart(SIX, CALENDAR, thing), False)
                self.assertIs(thing in Order(("bob", "cat")), False)

    def test_things_within_things(self):
        # None of these is a tuple of NAMEs, a tuple of rows or an end, so that no frame makes it right.
        for inner in (0, 1, True, None, [], ["a"], [()], ("A",), (0,), (("a",),), nested(11), Plan(), (Plan(),), PRICES, (PRICES,)):
            for thing in ((inner, ()), ((), inner), ((("a", inner),), ()), (((inner, ()),), ()), ((("a", (inner,)),), ())):
                with self.subTest(thing=thing):
                    self.assertIs(data.is_sheet(thing), False)
            for thing in ((inner, ""), (inner, "b"), (("a", inner), ""), ((inner,), "b"), (("c",), inner), (("a", "c"), inner)):
                with self.subTest(thing=thing):
                    self.assertIs(plans.is_part(thing), False)
            for thing in (inner, (inner,), ("ann", inner), (inner, "ann")):
                with self.subTest(thing=thing):
                    self.assertIs(swaps.is_barrier(SIX, thing), False)
                    self.assertIs(orders.is_why_not(SIX, ("ann", "cat", "dan", "eve"), thing), False)
            names, there = TOLD
            for thing in ((inner, there), (names, inner), ((inner, *names[1:]), there), (names, (inner, *there[1:]))):
                with self.subTest(thing=thing):
                    self.assertIs(withdrawals.are_told_prices(SIX, PLAN, thing, gone=("cat", "fay")), False)

    def test_bounds(self):
        """8 households and 3 empty homes, and somewhat beyond."""
        self.assertTrue(data.is_sheet(CROWD))
        self.assertEqual(len(data.homes(CROWD)), 11)
        names = "abcdefghij"
        beyond = (tuple((name, tuple(other for other in names if other != name)) for name in names), tuple("vwxyz"))
        self.assertTrue(data.is_sheet(beyond))
        self.assertEqual(swaps.most_swaps(beyond), 10)
        self.assertEqual(swaps.kinds(beyond), ((), (), tuple(names)))
        self.assertEqual(swaps.most_swaps(data.without(beyond, ("a",))), 8)
        self.assertEqual(orders.kept(beyond, names[::-1]), tuple(names))
        self.assertEqual(orders.why_not(data.without(beyond, ("a",)), tuple(names[1:])), ())
        self.assertEqual((rings.most_any(beyond), rings.most_any(beyond, rows=False), rings.most_rings(beyond)), (10, 10, 10))
        self.assertEqual(rings.crowd((tuple((name, ()) for name in names), ())), tuple(names))
        self.assertEqual(withdrawals.safest(data.without(beyond, ("a", "b", "c", "d")), 2), 2)

    def test_errors_leave_objects_unchanged(self):
        plan = Plan(*PLAN.parts)
        for call in (lambda: plan + PLAN, lambda: plan | Plan((("ann",), "x"))):
            self.assertEqual(raised(call)[0], errors.Clash)
            self.assertEqual(plan.parts, PLAN.parts)

    def test_everything_at_the_bounds(self):
        """Everybody wants everything: 8 households and 3 empty homes; of 5 and 2 where no more are asked for."""
        eight, order = data.households(CROWD), tuple("hgfedcba")
        small = (tuple((name, tuple(home for home in wants if home in "abcdexy")) for name, wants in CROWD[0][:5]), ("x", "y"))
        plan = rings.any_plan(CROWD)
        values = {
            "sheet": CROWD, "some": eight, "other": "h", "thing": eight, "order": order, "name": "a", "classes": (eight[:3], (), eight[3:]),
            "worths": tuple(range(8)), "suits": eight, "one": "a", "home": "x", "wanting": eight, "empty": "y", "plan": plan,
            "prices": rings.prices_of(CROWD), "names": eight, "many": 3, "gone": ("b", "g"), "without": ("c",), "wants": ("a",), "odd": True,
            "first": ("c", "a"), "rows": False, "longest": 8, "idle": True, "calendar": Calendar.always(CROWD, 0, 40), "last": 40,
            "text": "\n".join([*texts.sheet_text(CROWD).split("\n"), "", *["plan", "who", "run", "undo"] * 12, "most", "homes"]),
        }
        for call, given, _ in CALLS:
            if isinstance(call, types.FunctionType):
                used = {word: values[word] for word in given}
                if call in (data.joined_by, data.opened):
                    used.update({"name": "new"} if "name" in used else {"home": "new"})
                if call in (withdrawals.safest, withdrawals.safest_plan):
                    used["sheet"] = small
                if call == orders.more_from:
                    used.update({"some": eight[:3], "other": eight})
                if call == days.most_between and "first" in used:
                    used["first"] = 40
                if call in (texts.sheet_in, texts.plan_in):
                    used["text"] = texts.sheet_text(CROWD) if call == texts.sheet_in else plan.text
                with self.subTest(call=call.__name__):
                    self.assertEqual(value_of(call(**used)), value_of(call(**used)))

    def test_errors_with_lists_and_names(self):
        six = lists(SIX)
        for sheet, kept in itertools.product((six, SIX), (("bea", "zoe"), ["bea", "zoe"])):
            calls = (
                lambda: data.without(sheet=sheet, names=kept),
                lambda: data.suits(sheet=sheet, one="bea", other="zoe"),
                lambda: swaps.suiting(sheet=sheet, without=kept),
                lambda: swaps.parts_in(sheet=sheet, some=kept),
                lambda: swaps.leaves(sheet=sheet, name="bea"),
                lambda: days.day_by_day(sheet=sheet, calendar=CALENDAR, order=kept),
                lambda: Exchange(sheet).run(gone=kept),
                lambda: Exchange(sheet).change(word="order", value=kept),
            )
            for call in calls:
                self.assertEqual(raised(call), (errors.NoHousehold, {"name": "bea"}))


if __name__ == "__main__":
    unittest.main()
