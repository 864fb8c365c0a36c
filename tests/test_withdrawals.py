"""Withdrawals: promise [10], ordinary inputs, edges and wrong inputs."""

import unittest

from crosshomes.data import is_sheet, without
from crosshomes.errors import NoHousehold
from crosshomes.plans import Plan, is_plan, left_of
from crosshomes.rings import any_plan, most_any
from crosshomes.withdrawals import (
    are_told_prices, calmest, fewest_told, most_repaired, repair, rest_sheet, safe_for, safest, safest_plan, told_prices,
    weak_ones, worst_gone,
)
from tests.helper import CROWD, LONELY, NOBODY, ODD_THINGS, PRICES, SIX, lists, raised, subsets

EVERYBODY = ("ann", "bob", "cat", "dan", "eve", "fay")
EIGHT = tuple("abcdefgh")
FULL = Plan((("ann", "bob"), ""), (("cat", "dan", "eve"), ""), (("fay",), "new"))
BOTH = ((("a", ("b",)), ("b", ("a",))), ())
# The row a > b > c > x can be cut anywhere; d and e swap, and e wants a, too.
ROWS = ((("a", ("b",)), ("b", ("c", "y")), ("c", ("x",)), ("d", ("e",)), ("e", ("a", "d"))), ("x", "y"))
ROW = Plan((("a", "b", "c"), "x"), (("d", "e"), ""))


class Safe(unittest.TestCase):
    def test_nobody(self):
        for many in (0, 1, 5):
            self.assertEqual((safe_for(Plan(), many), worst_gone(Plan(), many), weak_ones(Plan())), (0, (), ()))
            self.assertEqual((safest(NOBODY, many), safest_plan(NOBODY, many)), (0, Plan()))

    def test_nobody_withdraws(self):
        self.assertEqual((safe_for(FULL, 0), worst_gone(FULL, 0), safe_for(ROW, 0)), (6, (), 5))

    def test_rings_and_rows(self):
        self.assertEqual([safe_for(ROW, many) for many in (1, 2, 3, 10 ** 20)], [2, 0, 0, 0])
        self.assertEqual([worst_gone(ROW, many) for many in (1, 2, 3, 10 ** 20)], [("c",), ("c", "d"), ("c", "d"), ("c", "d")])
        self.assertEqual(weak_ones(ROW), ("c",))
        self.assertEqual([worst_gone(FULL, many) for many in (1, 3, 4)], [("cat",), ("ann", "cat", "fay"), ("ann", "cat", "fay")])

    def test_the_least_of_several(self):
        plan = Plan((("b", "d"), "x"), (("c", "e"), ""), (("a", "f"), "y"), (("g",), "z"))
        self.assertEqual([worst_gone(plan, many) for many in (1, 2, 3, 4)], [("c",), ("c", "d"), ("c", "d", "f"), ("c", "d", "f", "g")])
        self.assertEqual(weak_ones(plan), ("c", "d", "e", "f"))
        self.assertEqual([safe_for(plan, many) for many in range(5)], [7, 5, 3, 1, 0])

    def test_a_part_of_more_names_is_worse_than_a_lesser_name(self):
        plan = Plan((("a",), "x"), (("c", "b", "d"), "y"))
        self.assertEqual((worst_gone(plan, 1), weak_ones(plan), safe_for(plan, 1)), (("d",), ("d",), 1))

    def test_safest(self):
        self.assertEqual([safest(BOTH, many) for many in range(4)], [2, 0, 0, 0])
        # Everybody moves, whether in one ring or by swaps; swaps are safer.
        four = (tuple((name, tuple(other for other in "abcd" if other != name)) for name in "abcd"), ())
        self.assertEqual([safest(four, many) for many in range(4)], [4, 2, 0, 0])
        self.assertEqual([(len(names), end) for names, end in safest_plan(four, 1).parts], [(2, ""), (2, "")])
        homes = tuple("abcdexy")
        five = (tuple((name, tuple(home for home in homes if home != name)) for name in "abcde"), ("x", "y"))
        self.assertEqual([safest(five, many) for many in range(6)], [5, 3, 1, 0, 0, 0])

    def test_fewer_may_be_safer(self):
        # By the ring of five all move; by the rows of two and of one, when one withdraws, one still does.
        ring = (("a", ("b",)), ("b", ("c", "x")), ("c", ("d",)), ("d", ("e", "y")), ("e", ("a",)))
        self.assertEqual([safest((ring, ()), many) for many in (0, 1)], [5, 0])
        self.assertEqual([safest((ring, ("x", "y")), many) for many in (0, 1, 2)], [5, 2, 0])
        plan = safest_plan((ring, ("x", "y")), 1)
        self.assertEqual((safe_for(plan, 1), is_plan((ring, ("x", "y")), plan)), (2, True))
        self.assertEqual(len(safest_plan((ring, ("x", "y")), 0)), 5)

    def test_safest_plan(self):
        for sheet in (ROWS, BOTH, without(SIX, ("ann",)), LONELY):
            for many in range(5):
                plan = safest_plan(sheet, many)
                self.assertTrue(is_plan(sheet, plan))
                self.assertEqual(safe_for(plan, many), safest(sheet, many))


class Repairing(unittest.TestCase):
    def test_nobody_gone(self):
        self.assertEqual(rest_sheet(SIX, FULL, gone=()), ((), ("fay",)))
        self.assertEqual((most_repaired(SIX, FULL, gone=()), repair(SIX, FULL, gone=())), (6, FULL))
        self.assertEqual(rest_sheet(NOBODY, Plan(), gone=()), NOBODY)
        self.assertEqual((most_repaired(NOBODY, Plan(), gone=()), repair(NOBODY, Plan(), gone=())), (0, Plan()))

    def test_everybody_gone(self):
        self.assertEqual(rest_sheet(SIX, FULL, gone=EVERYBODY), ((), ("new",)))
        self.assertEqual((most_repaired(SIX, FULL, gone=EVERYBODY), repair(SIX, FULL, gone=EVERYBODY)), (0, Plan()))

    def test_rest_sheet(self):
        self.assertEqual(rest_sheet(SIX, FULL, gone=("fay",)), ((), ("new",)))
        self.assertEqual(
            rest_sheet(SIX, FULL, gone=("cat", "fay")), ((("dan", ("eve",)), ("eve", ("dan",))), ("new",)),
        )
        self.assertEqual(rest_sheet(ROWS, ROW, gone=("d",)), ((("e", ("a",)),), ("a", "y")))
        self.assertEqual(rest_sheet(ROWS, ROW, gone=("b",)), ((("a", ()), ("c", ("x",))), ("x", "y")))
        # Without PARTs nobody has a home to take, and all that are not gone are looked at anew.
        self.assertEqual(rest_sheet(SIX, Plan(), gone=()), SIX)
        self.assertEqual(rest_sheet(LONELY, Plan(), gone=()), ((("a", ("b",)), ("b", ("c",)), ("c", ("e",)), ("d", ())), ("e",)))
        for gone in subsets(EVERYBODY):
            self.assertIs(is_sheet(rest_sheet(lists(SIX), FULL, gone=list(gone))), True)
            self.assertEqual(rest_sheet(lists(SIX), FULL, gone=list(gone)), rest_sheet(SIX, FULL, gone=gone))

    def test_those_who_do_not_move_may_now(self):
        self.assertEqual((most_repaired(SIX, Plan((("ann", "bob"), "")), gone=("bob",)), most_any(without(SIX, ("bob",)))), (4, 4))
        self.assertEqual(most_repaired(SIX, Plan(), gone=()), 6)

    def test_a_row_that_goes_on_behind_a_whole_one(self):
        plan = repair(ROWS, ROW, gone=("d",))
        self.assertEqual(plan.parts, ((("e", "a", "b", "c"), "x"),))
        self.assertEqual(most_repaired(ROWS, ROW, gone=("d",)), 4)

    def test_a_row_is_cut_and_joined_again(self):
        self.assertEqual((left_of(ROW, ("c",)).text, most_repaired(ROWS, ROW, gone=("c",))), ("d>e>d", 4))
        self.assertEqual(repair(ROWS, ROW, gone=("c",)).parts, ((("a", "b"), "y"), (("d", "e"), "")))

    def test_repair(self):
        for sheet, plan in ((SIX, FULL), (ROWS, ROW), (SIX, Plan()), (CROWD, any_plan(CROWD)), (LONELY, Plan((("b", "c"), "e")))):
            for gone in subsets([name for name, _ in sheet[0]][:5]):
                found = repair(sheet, plan, gone=gone)
                self.assertTrue(is_plan(sheet, found))
                self.assertEqual(len(found), most_repaired(sheet, plan, gone=gone))
                self.assertFalse(set(gone) & set(found.movers))
                self.assertTrue(all(found(name) == plan(name) for names, _ in plan.parts if not set(names) & set(gone) for name in names))
                self.assertLessEqual(len(left_of(plan, gone)), len(found))
                self.assertLessEqual(len(found), most_any(without(sheet, gone)))


class Telling(unittest.TestCase):
    def test_nobody(self):
        self.assertEqual((fewest_told(NOBODY, Plan(), gone=()), calmest(NOBODY, Plan(), gone=())), (0, Plan()))
        self.assertEqual((told_prices(NOBODY, Plan(), gone=()), are_told_prices(NOBODY, Plan(), ((), ()), gone=())), (((), ()), True))
        self.assertEqual((fewest_told(SIX, FULL, gone=EVERYBODY), calmest(SIX, FULL, gone=EVERYBODY)), (0, Plan()))
        self.assertEqual(told_prices(SIX, FULL, gone=EVERYBODY), ((), (("new", 0),)))

    def test_nobody_gone(self):
        self.assertEqual((fewest_told(SIX, FULL, gone=()), calmest(SIX, FULL, gone=())), (0, FULL))
        # The other swap, and the other way around the ring, would tell as many to move.
        other = Plan((("ann", "bob"), ""), (("cat", "eve", "dan"), ""), (("fay",), "new"))
        self.assertEqual((fewest_told(SIX, other, gone=()), calmest(SIX, other, gone=())), (0, other))

    def test_fewest_told(self):
        # Gone is cat: ann and bob swap as they did, fay moves as it did; of dan and eve, who swap, dan is told.
        self.assertEqual(calmest(SIX, FULL, gone=("cat",)).text, "ann>bob>ann; dan>eve>dan; fay>new")
        self.assertEqual((fewest_told(SIX, Plan(), gone=()), fewest_told(SIX, Plan(), gone=("bob", "fay"))), (6, 3))
        # Gone is bob: ann, whose old home was that of bob, is told, though it stays.
        self.assertEqual(fewest_told(SIX, FULL, gone=("bob",)), 1)
        # As many as can be move, whatever must be told.
        self.assertEqual((fewest_told(BOTH, Plan(), gone=()), calmest(BOTH, Plan(), gone=())), (2, Plan((("a", "b"), ""))))

    def test_the_home_of_somebody_gone_is_not_free(self):
        chain = ((("a", ("b",)), ("b", ("x",))), ("x",))
        plan = Plan((("a", "b"), "x"))
        self.assertEqual((fewest_told(chain, plan, gone=("b",)), calmest(chain, plan, gone=("b",))), (1, Plan()))
        self.assertEqual((fewest_told(chain, plan, gone=("a",)), calmest(chain, plan, gone=("a",))), (0, Plan((("b",), "x"))))

    def test_calmest(self):
        for sheet, plan in ((SIX, FULL), (ROWS, ROW), (SIX, Plan()), (CROWD, any_plan(CROWD)), (LONELY, Plan((("b", "c"), "e")))):
            for gone in subsets([name for name, _ in sheet[0]][:5]):
                found = calmest(sheet, plan, gone=gone)
                self.assertTrue(is_plan(sheet, found))
                self.assertFalse(set(gone) & set(found.movers))
                self.assertEqual(len(found), most_any(without(sheet, gone)))
                others = [name for name, _ in sheet[0] if name not in gone]
                told = [name for name in others if (found(name) or name) != (plan(name) or name)]
                self.assertEqual(len(told), fewest_told(sheet, plan, gone=gone))

    def test_told_prices(self):
        for sheet, plan in ((SIX, FULL), (ROWS, ROW), (SIX, Plan()), (CROWD, any_plan(CROWD)), (LONELY, Plan((("b", "c"), "e")))):
            for gone in subsets([name for name, _ in sheet[0]][:5]):
                found = told_prices(sheet, plan, gone=gone)
                many = len(sheet[0]) - len(gone)
                told = fewest_told(sheet, plan, gone=gone)
                self.assertIs(are_told_prices(sheet, plan, found, gone=gone), True)
                total = sum(number for pairs in found for _, number in pairs)
                self.assertEqual(total, (many + 1) * most_any(without(sheet, gone)) + many - told)

    def test_are_told_prices(self):
        sheet = ((("a", ("b", "x")), ("b", ("a",))), ("x", "y"))
        plan = Plan((("a",), "x"))
        homes = (("a", 0), ("b", 0), ("x", 1), ("y", 0))
        # Of the two bounds of each, one is higher at the old home: that of a is x, that of b its own.
        self.assertIs(are_told_prices(sheet, plan, ((("a", 3), ("b", 3)), homes), gone=()), True)
        self.assertIs(are_told_prices(sheet, plan, ((("a", 2), ("b", 3)), homes), gone=()), False)
        self.assertIs(are_told_prices(sheet, plan, ((("a", 3), ("b", 3)), (*homes[:2], ("x", 0), homes[3])), gone=()), False)
        self.assertIs(are_told_prices(sheet, plan, ((("a", 4), ("b", 3)), (*homes[:2], ("x", 0), homes[3])), gone=()), True)
        self.assertIs(are_told_prices(sheet, plan, ((("a", 3), ("b", 2)), homes), gone=()), False)
        self.assertIs(are_told_prices(sheet, plan, ((("a", 3), ("b", 2)), (("a", 1), ("b", 0), *homes[2:])), gone=()), True)
        self.assertIs(are_told_prices(sheet, plan, ((("a", 0), ("b", 0)), (("a", 3), ("b", 3), ("x", 4), ("y", 0))), gone=()), True)
        self.assertIs(are_told_prices(sheet, plan, ((("a", -9), ("b", 0)), (("a", 9), ("b", 12), ("x", 13), ("y", 0))), gone=()), True)
        self.assertIs(are_told_prices(sheet, plan, ((("a", -9), ("b", 0)), (("a", 8), ("b", 12), ("x", 13), ("y", 0))), gone=()), False)
        self.assertIs(are_told_prices(sheet, plan, ((("a", 3), ("b", 3)), (*homes[:3], ("y", -1))), gone=()), False)

    def test_with_some_gone(self):
        sheet = ((("a", ("b", "x")), ("b", ("a",))), ("x", "y"))
        plan = Plan((("a", "b"), ""))
        right = ((("a", 2),), (("a", 0), ("x", 0), ("y", 0)))
        self.assertIs(are_told_prices(sheet, plan, right, gone=("b",)), True)
        self.assertIs(are_told_prices(sheet, plan, right, gone=["b"]), True)
        self.assertIs(are_told_prices(sheet, plan, right, gone=()), False)
        self.assertIs(are_told_prices(sheet, plan, ((("a", 1),), (("a", 0), ("x", 0), ("y", 0))), gone=("b",)), False)
        self.assertIs(are_told_prices(sheet, plan, ((("a", 2),), (("a", 0), ("b", 0), ("x", 0), ("y", 0))), gone=("b",)), False)
        self.assertIs(are_told_prices(sheet, plan, ((("a", 2), ("b", 9)), (("a", 0), ("x", 0), ("y", 0))), gone=("b",)), False)

    def test_other_things(self):
        right = ((("a", 4), ("b", 4)), (("a", 0), ("b", 0)))
        self.assertIs(are_told_prices(BOTH, Plan(), right, gone=()), True)
        wrong = (
            list(right), [list(one) for one in right], (list(right[0]), right[1]), (right[0], list(right[1])), (right[0],), (*right, ()),
            ((["a", 4], ("b", 4)), right[1]), (right[0], (("a", 0), ["b", 0])), (right[0], (("a", False), ("b", 0))),
            ((("a", True), ("b", 4)), right[1]), ((("a", "4"), ("b", 4)), right[1]), ((("a", None), ("b", 4)), right[1]),
            ((("a", 4),), right[1]), (right[0], (("a", 0),)), ((("b", 4), ("a", 4)), right[1]), (right[0], (("b", 0), ("a", 0))),
            ((("a", 4), ("b", 4), ("c", 4)), right[1]), (right[0], (*right[1], ("c", 0))), ((("a", 4, 0), ("b", 4)), right[1]),
            ((("a", 4), ("a", 4), ("b", 4)), right[1]), ((("a",), ("b", 4)), right[1]), ((4, 4), right[1]), (4, 0), ("ab", "ab"),
            ((("a", 4), (PRICES, 4)), right[1]), ((("a", PRICES), ("b", 4)), right[1]), ((("a", Plan()), ("b", 4)), right[1]),
            ((("a", 4), (["b"], 4)), right[1]), ((("a", 4), (("b",), 4)), right[1]), ((("a", (4,)), ("b", 4)), right[1]), ((), right[1]),
        )
        for thing in (*wrong, *ODD_THINGS):
            with self.subTest(thing=thing):
                self.assertIs(are_told_prices(BOTH, Plan(), thing, gone=()), False)
        # True and False stand for no number, whatever they count as.
        low = ((("a", 3), ("b", 3)), (("a", 1), ("b", 0)))
        self.assertIs(are_told_prices(BOTH, Plan(), low, gone=()), True)
        self.assertIs(are_told_prices(BOTH, Plan(), (low[0], (("a", True), ("b", 0))), gone=()), False)
        self.assertIs(are_told_prices(BOTH, Plan(), (low[0], (("a", 1), ("b", False))), gone=()), False)


class Wrong(unittest.TestCase):
    def test_gone(self):
        for gone, first in ((("zoe",), "zoe"), (("ann", "new"), "new"), (("ann", "bea", "zoe"), "bea"), (["bea", "cat"], "bea")):
            for plan in (FULL, Plan()):
                calls = (
                    lambda: rest_sheet(SIX, plan, gone=gone), lambda: most_repaired(SIX, plan, gone=gone), lambda: repair(SIX, plan, gone=gone),
                    lambda: fewest_told(SIX, plan, gone=gone), lambda: calmest(SIX, plan, gone=gone), lambda: told_prices(SIX, plan, gone=gone),
                    lambda: are_told_prices(SIX, plan, None, gone=gone), lambda: are_told_prices(SIX, plan, ((), ()), gone=gone),
                    lambda: are_told_prices(lists(SIX), plan, told_prices(SIX, plan, gone=()), gone=gone),
                )
                for at, call in enumerate(calls):
                    with self.subTest(gone=gone, at=at):
                        self.assertEqual(raised(call), (NoHousehold, {"name": first}))
        self.assertEqual(raised(lambda: repair(NOBODY, Plan(), gone=("ann",))), (NoHousehold, {"name": "ann"}))

    def test_plans_stay_as_they_are(self):
        parts = FULL.parts
        for gone in subsets(EVERYBODY):
            repair(SIX, FULL, gone=gone)
            calmest(SIX, FULL, gone=gone)
        self.assertEqual(FULL.parts, parts)


if __name__ == "__main__":
    unittest.main()
