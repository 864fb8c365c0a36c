"""Plans: promise [5], and the text of a Plan as [13] tells it."""

import itertools
import unittest

from crosshomes.errors import Clash
from crosshomes.plans import Plan, is_part, is_plan, left_of
from tests.helper import CROWD, NOBODY, ODD_THINGS, SIX, lists, raised

SWAP = (("ann", "bob"), "")
RING = (("cat", "dan", "eve"), "")
ROW = (("fay",), "new")
LONG = Plan((("a", "b", "c", "d"), "x"))


class IsPart(unittest.TestCase):
    def test_parts(self):
        names = tuple("abcdefghijklmnopqrstuvwxyz")
        for part in (SWAP, RING, ROW, (("b", "a"), "c"), (("a", "c", "b"), ""), (names, ""), (names, "aa"), (("zzzzzzzz",), "a")):
            with self.subTest(part=part):
                self.assertIs(is_part(part), True)

    def test_wrong(self):
        wrong = (
            ((), ""), (("a",), ""), (("b", "a"), ""), (("a", "a"), ""), (("a", "b", "a"), ""), (("b", "c", "a"), ""),
            ((), "a"), (("a",), "a"), (("b", "a"), "a"), (("a", "a"), "b"), (("a",), "B"), (("A",), "b"), (("",), "b"),
            (("a",), "abcdefghi"), (("a", "b"), None), (("a", "b"), 0), (("a", "b"), ()), (("a", "b"), False),
            (("a", "b"),), (("a", "b"), "", ""), ("ab", ""), ("a", "b"), ((0, 1), ""), ((("a",), "b"), ""),
            ((["a"], "b"), "c"), (("a", "b"), [""]), ((Plan(), "b"), "c"), (("a", "b"), Plan()), (SWAP,), ((("a",), ("b",)), ""),
        )
        for thing in (*wrong, *ODD_THINGS):
            with self.subTest(thing=thing):
                self.assertIs(is_part(thing), False)

    def test_lists_are_none(self):
        for thing in ([("a", "b"), ""], (["a", "b"], ""), [["a"], "b"], (["a"], "b")):
            with self.subTest(thing=thing):
                self.assertIs(is_part(thing), False)


class Making(unittest.TestCase):
    def test_without_parts(self):
        for plan in (Plan(), Plan.of(()), Plan.of([])):
            self.assertEqual((plan.parts, plan.movers, plan.ends, plan.left, plan.text), ((), (), (), (), "-"))
            self.assertEqual((len(plan), bool(plan), plan("ann"), "ann" in plan), (0, False, None, False))

    def test_rings_begin_anywhere(self):
        for names in (("cat", "dan", "eve"), ("dan", "eve", "cat"), ("eve", "cat", "dan")):
            self.assertEqual(Plan((names, "")).parts, (RING,))
            self.assertEqual(Plan([list(names), ""]).parts, (RING,))
            self.assertEqual(Plan.ring(*names), RING)
        self.assertEqual(Plan.ring("dan", "cat", "eve"), (("cat", "eve", "dan"), ""))
        self.assertEqual(Plan((("b", "a", "d", "c"), "")).parts, ((("a", "d", "c", "b"), ""),))
        self.assertEqual((Plan.ring("b", "a"), Plan.ring("a", "b")), ((("a", "b"), ""), (("a", "b"), "")))

    def test_rows_stay_as_they_are(self):
        self.assertEqual(Plan((("c", "a", "b"), "x")).parts, ((("c", "a", "b"), "x"),))
        self.assertEqual(Plan.row("x", "c", "a", "b"), (("c", "a", "b"), "x"))
        self.assertEqual(Plan.row("a", "b"), (("b",), "a"))
        for part in (Plan.ring("b", "a"), Plan.row("x", "b", "a")):
            self.assertIs(is_part(part), True)

    def test_parts_ascend(self):
        for order in itertools.permutations((SWAP, RING, ROW, (("gus",), "old"))):
            self.assertEqual(Plan(*order).parts, (SWAP, RING, ROW, (("gus",), "old")))
        self.assertEqual(Plan((("d", "c"), ""), (("b",), "a")).parts, ((("b",), "a"), (("c", "d"), "")))

    def test_lists_at_every_depth(self):
        plan = Plan(SWAP, ROW)
        for parts in ([SWAP, ROW], (list(SWAP), list(ROW)), lists((SWAP, ROW)), [lists(ROW), (["bob", "ann"], "")]):
            self.assertEqual(Plan(*parts).parts, plan.parts)
            self.assertEqual(Plan.of(parts).parts, plan.parts)
            self.assertEqual(Plan.of(parts=parts), plan)
        self.assertTrue(all(is_part(part) for part in Plan.of(lists((SWAP, ROW))).parts))

    def test_arguments_are_copied(self):
        parts = lists((SWAP, ROW))
        plan = Plan.of(parts)
        parts[0][0][0] = "zoe"
        parts[1][1] = "old"
        parts.clear()
        self.assertEqual((plan.parts, plan("ann"), plan("fay"), plan("zoe")), ((SWAP, ROW), "bob", "new", None))

    def test_clash(self):
        cases = (
            ("a", (("a", "b"), ""), (("a", "c"), "")),
            ("b", (("a", "b"), ""), (("b", "c"), "")),
            ("c", (("c", "d"), ""), (("c", "d"), "")),
            ("x", (("a",), "x"), (("b",), "x")),
            ("b", (("a",), "b"), (("b",), "c")),
            ("b", (("b",), "c"), (("a",), "b")),
            ("a", (("b", "c"), ""), (("d",), "a"), (("a",), "c")),
            ("a", (("c",), "x"), (("c",), "a"), (("d", "a"), "")),
            ("d", (("a",), "x"), (("c", "d"), ""), (("z", "d"), "y"), (("w",), "z")),
        )
        for name, *parts in cases:
            for order in itertools.permutations(parts):
                with self.subTest(order=order):
                    self.assertEqual(raised(lambda: Plan(*order)), (Clash, {"name": name}))
                    self.assertEqual(raised(lambda: Plan.of(lists(order))), (Clash, {"name": name}))


class Reading(unittest.TestCase):
    def test_who_moves_where(self):
        plan = Plan(SWAP, RING, (("gus", "fay"), "new"))
        homes = {"ann": "bob", "bob": "ann", "cat": "dan", "dan": "eve", "eve": "cat", "gus": "fay", "fay": "new"}
        self.assertEqual({name: plan(name) for name in plan.movers}, homes)
        self.assertEqual(plan.movers, tuple(sorted(homes)))
        self.assertEqual((len(plan), bool(plan)), (7, True))
        self.assertEqual((plan("new"), plan("zoe"), plan(name="gus")), (None, None, "fay"))
        self.assertEqual([name in plan for name in ("gus", "fay", "new", "zoe")], [True, True, False, False])

    def test_ends_and_left_ascend(self):
        plan = Plan((("a", "c"), "z"), (("b",), "y"), (("d", "e"), ""), (("h", "g", "f"), "x"))
        self.assertEqual((plan.ends, plan.left), (("x", "y", "z"), ("a", "b", "h")))

    def test_text(self):
        self.assertEqual(Plan(ROW).text, "fay>new")
        self.assertEqual(Plan((("c", "a", "b"), "x")).text, "c>a>b>x")
        self.assertEqual(Plan(ROW, (("bob", "ann"), ""), RING).text, "ann>bob>ann; cat>dan>eve>cat; fay>new")

    def test_nothing_can_be_set(self):
        for word in ("parts", "movers", "ends", "left", "text"):
            with self.subTest(word=word):
                self.assertRaises(AttributeError, setattr, Plan(SWAP), word, ())

    def test_equal(self):
        self.assertTrue(Plan(SWAP, ROW) == Plan(ROW, (("bob", "ann"), "")))
        self.assertFalse(Plan(SWAP, ROW) != Plan(ROW, SWAP))
        self.assertFalse(Plan(SWAP) == Plan(ROW))
        self.assertTrue(Plan(SWAP) != Plan())
        for thing in (*ODD_THINGS[:26], (SWAP,), SWAP, SWAP[0], "ann>bob>ann", 2):
            with self.subTest(thing=thing):
                self.assertIs(Plan(SWAP) == thing, False)
                self.assertIs(thing == Plan(SWAP), False)
                self.assertIs(Plan(SWAP) != thing, True)

    def test_order(self):
        plans = [Plan(), Plan(SWAP), Plan(SWAP, RING), Plan(SWAP, ROW), Plan((("ann", "bob"), "cat")), Plan(RING), Plan(ROW)]
        for one, other in itertools.product(plans, repeat=2):
            with self.subTest(one=one.text, other=other.text):
                self.assertIs(one < other, one.parts < other.parts)
                self.assertIs(one <= other, one.parts <= other.parts)
                self.assertIs(one > other, one.parts > other.parts)
                self.assertIs(one >= other, one.parts >= other.parts)
        self.assertEqual(sorted(plans[::-1]), plans)
        for call in (lambda: Plan() < (), lambda: Plan() <= (), lambda: Plan() > (), lambda: Plan() >= ()):
            self.assertRaises(TypeError, call)


class Together(unittest.TestCase):
    def test_within(self):
        cases = (
            (Plan(), Plan(), True),
            (Plan(), LONG, True),
            (LONG, LONG, True),
            (LONG, Plan(), False),
            (Plan((("c", "d"), "x")), LONG, True),
            (Plan((("d",), "x")), LONG, True),
            (Plan((("a",), "b")), LONG, False),
            (Plan((("b", "c"), "d")), LONG, False),
            (Plan((("b", "d"), "x")), LONG, False),
            (Plan((("c", "d"), "y")), LONG, False),
            (Plan((("c", "d"), "")), LONG, False),
            (Plan(SWAP), Plan(SWAP, RING), True),
            (Plan(SWAP, RING), Plan(SWAP), False),
            (Plan((("ann",), "bob")), Plan(SWAP), False),
            (Plan((("cat", "eve", "dan"), "")), Plan(RING), False),
        )
        for one, other, whether in cases:
            with self.subTest(one=one.text, other=other.text):
                self.assertIs(one.within(other), whether)
                self.assertIs(one.within(other=other), whether)

    def test_and(self):
        cases = (
            (LONG, Plan((("y", "c", "d"), "x")), "c>d>x"),
            (LONG, Plan((("c",), "d")), "-"),
            (LONG, Plan((("b", "d"), "x")), "d>x"),
            (LONG, Plan((("a", "b", "c"), "x")), "-"),
            (LONG, Plan((("a", "b", "c", "d"), "")), "-"),
            (LONG, LONG, "a>b>c>d>x"),
            (Plan(SWAP, ROW), Plan(SWAP, RING), "ann>bob>ann"),
            (Plan(SWAP, RING), Plan(SWAP, (("cat", "eve", "dan"), "")), "ann>bob>ann"),
            (Plan(SWAP), Plan(ROW), "-"),
            (Plan(SWAP), Plan(), "-"),
            (Plan((("a",), "x"), (("b",), "y")), Plan((("c", "a"), "x"), (("d", "b"), "y")), "a>x; b>y"),
        )
        for one, other, text in cases:
            with self.subTest(one=one.text, other=other.text):
                self.assertEqual(((one & other).text, (other & one).text), (text, text))

    def test_or(self):
        cases = (
            (LONG, Plan((("y", "a", "b", "c", "d"), "x")), "y>a>b>c>d>x"),
            (LONG, Plan((("d",), "x")), "a>b>c>d>x"),
            (LONG, Plan(), "a>b>c>d>x"),
            (Plan(SWAP, ROW), Plan(SWAP, RING), "ann>bob>ann; cat>dan>eve>cat; fay>new"),
            (Plan(), Plan(), "-"),
            (Plan((("b",), "x")), Plan((("a",), "y")), "a>y; b>x"),
        )
        for one, other, text in cases:
            with self.subTest(one=one.text, other=other.text):
                self.assertEqual(((one | other).text, (other | one).text), (text, text))

    def test_or_clashes(self):
        cases = (
            ("two homes to move to", "a", Plan((("a",), "x")), Plan((("a",), "y"))),
            ("a home that two would take", "x", Plan((("a",), "x")), Plan((("b",), "x"))),
            ("an end that moves", "b", Plan((("a",), "b")), Plan((("b",), "c"))),
            ("an end that moves in a ring", "b", Plan((("a",), "b")), Plan((("b", "c"), ""))),
            ("an end of the same way", "b", Plan((("a",), "b")), Plan((("a", "b"), "x"))),
            ("both ends would make a ring", "a", Plan((("b",), "a")), Plan((("a",), "b"))),
            ("a home of two, less than the household", "a", Plan((("c", "a"), "")), Plan((("c", "b", "a"), ""))),
            ("the least of several", "b", Plan((("d",), "x"), (("c",), "b")), Plan((("d",), "y"), (("b",), "z"))),
            ("the least of several homes", "m", Plan((("p",), "m"), (("q",), "n")), Plan((("r",), "n"), (("s",), "m"))),
        )
        for why, name, one, other in cases:
            with self.subTest(why=why):
                self.assertEqual(raised(lambda: one | other), (Clash, {"name": name}))
                self.assertEqual(raised(lambda: other | one), (Clash, {"name": name}))

    def test_add(self):
        self.assertEqual((Plan(ROW) + Plan(SWAP, RING)).parts, (SWAP, RING, ROW))
        self.assertEqual((Plan(ROW) + Plan(), Plan() + Plan(ROW)), (Plan(ROW), Plan(ROW)))
        cases = (
            ("ann", Plan(SWAP), Plan(SWAP)),
            ("x", Plan((("a",), "x")), Plan((("b",), "x"))),
            ("b", Plan((("a",), "b")), Plan((("b", "c"), ""))),
            ("c", Plan((("d",), "c"), (("e", "f"), "")), Plan((("e",), "d"), (("c",), "f"))),
        )
        for name, one, other in cases:
            with self.subTest(name=name):
                self.assertEqual(raised(lambda: one + other), (Clash, {"name": name}))
                self.assertEqual(raised(lambda: other + one), (Clash, {"name": name}))

    def test_withdrawing(self):
        self.assertEqual([(LONG - name).text for name in "abcdx"], ["b>c>d>x", "c>d>x", "d>x", "-", "a>b>c>d>x"])
        plan = Plan(SWAP, RING, ROW)
        self.assertEqual((plan - "dan").parts, (SWAP, ROW))
        self.assertEqual((plan - "fay").parts, (SWAP, RING))
        self.assertEqual((plan - "new", plan - "zoe", Plan() - "zoe"), (plan, plan, Plan()))
        self.assertIs(plan - "new", plan)
        self.assertEqual(plan.parts, (SWAP, RING, ROW))

    def test_left_of(self):
        plan = Plan(SWAP, RING, ROW, (("g", "h", "i"), "j"))
        self.assertEqual(left_of(plan, ()), plan)
        self.assertEqual(left_of(plan, ("j", "new", "zoe")), plan)
        self.assertEqual(left_of(plan, ("ann", "cat", "g")).text, "fay>new; h>i>j")
        self.assertEqual(left_of(plan, ["ann", "bob", "fay", "h"]).text, "cat>dan>eve>cat; i>j")
        self.assertEqual(left_of(plan, plan.movers), Plan())
        self.assertEqual(left_of(LONG, ("a", "c")).text, "d>x")
        self.assertEqual(left_of(Plan(), ("a",)), Plan())

    def test_nothing_changes(self):
        one, other = Plan(SWAP, ROW), Plan(ROW, RING)
        for make in (
            lambda: one & other, lambda: one | other, lambda: one - "ann", lambda: left_of(one, ("ann",)),
            lambda: one.within(other), lambda: one + Plan(RING), lambda: raised(lambda: one + other),
        ):
            self.assertEqual(make(), make())
            self.assertEqual((one.parts, other.parts), ((SWAP, ROW), (RING, ROW)))


class IsPlan(unittest.TestCase):
    def test_plans(self):
        for plan in (Plan(), Plan(SWAP), Plan(SWAP, RING, ROW), Plan((("dan", "eve"), ""), ROW), Plan((("bob", "cat"), ""))):
            with self.subTest(plan=plan.text):
                self.assertIs(is_plan(SIX, plan), True)
                self.assertIs(is_plan(lists(SIX), plan), True)
        self.assertIs(is_plan(CROWD, Plan((tuple("hgfed"), "x"), (("a", "c", "b"), ""))), True)
        self.assertIs(is_plan(NOBODY, Plan()), True)

    def test_wrong(self):
        wrong = (
            Plan((("ann", "cat"), "")),
            Plan((("ann", "bob", "cat"), "")),
            Plan((("fay",), "cat")),
            Plan((("cat",), "new")),
            Plan((("zoe",), "new")),
            Plan((("fay",), "old")),
            Plan(SWAP, (("dan",), "cat")),
            Plan(ROW, (("ann", "cat"), "")),
            Plan((("ann", "zoe"), "")),
            Plan((("new", "fay"), "")),
        )
        for plan in wrong:
            with self.subTest(plan=plan.text):
                self.assertIs(is_plan(SIX, plan), False)
        self.assertIs(is_plan(NOBODY, Plan(SWAP)), False)

    def test_a_wish_for_what_is_no_home(self):
        self.assertIs(is_plan(((("a", ("x",)),), ()), Plan((("a",), "x"))), False)
        self.assertIs(is_plan(((("a", ("x",)),), ("x",)), Plan((("a",), "x"))), True)
        # The end is a home that is wanted, but somebody lives there.
        self.assertIs(is_plan(((("a", ("b",)), ("b", ())), ()), Plan((("a",), "b"))), False)


if __name__ == "__main__":
    unittest.main()
