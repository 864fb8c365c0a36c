"""Rings and rows of any length: promise [9], ordinary inputs, edges and wrong inputs."""

import types
import unittest

from crosshomes.errors import BadBound, NoHome, NoHousehold
from crosshomes.orders import Order
from crosshomes.plans import Plan, is_part, is_plan
from crosshomes.rings import (
    Prices, any_plan, are_prices, crowd, fewest_extras, gains, kept_any, may_move, may_take, most_any, most_rings,
    move_together, prices_of, rings_plan, surely_moves, surely_take, why_stuck, with_fewest, with_part, worth_of,
)
from tests.helper import CROWD, KITE, LONELY, NOBODY, ODD_THINGS, PRICES, SIX, lists, raised

EVERYBODY = ("ann", "bob", "cat", "dan", "eve", "fay")
FIVE = (SIX[0], ())
EIGHT = tuple("abcdefgh")
HUB = ((("a", ()), ("b", ("a",)), ("c", ("a",))), ())
FORK = ((("a", ("b",)), ("b", ("a", "c")), ("c", ("d",)), ("d", ("b",))), ())
# One ring of eight, and nothing else.
ROUND = (tuple((name, (other,)) for name, other in zip("abcdefgh", "bcdefgha")), ())
# One row of eight, and nothing else.
LADDER = (tuple((name, (other,)) for name, other in zip("abcdefgh", "xabcdefg")), ("x",))
# Wishes for what is no home, and for homes that nobody can leave; two empty homes that nobody wants.
STUCK = ((("a", ("e",)), ("b", ("a", "e"))), ("x", "y"))


class Most(unittest.TestCase):
    def test_nobody(self):
        for sheet in (NOBODY, ((), ("x", "y"))):
            self.assertEqual((most_any(sheet), most_any(sheet, rows=False), most_rings(sheet), most_rings(sheet, longest=9)), (0, 0, 0, 0))
            self.assertEqual((any_plan(sheet), any_plan(sheet, rows=False), rings_plan(sheet)), (Plan(), Plan(), Plan()))
            self.assertEqual((list(gains(sheet)), fewest_extras(sheet), crowd(sheet)), ([], 0, ()))
            self.assertEqual((surely_moves(sheet), may_move(sheet), surely_take(sheet), may_take(sheet)), ((), (), [], []))
            self.assertEqual((move_together(sheet, ()), why_stuck(sheet, ()), kept_any(sheet, ())), (True, None, ()))
        self.assertEqual(prices_of(NOBODY), Prices((), ()))
        self.assertEqual(prices_of(((), ("x", "y"))), Prices((), (("x", 0), ("y", 0))))

    def test_most_any(self):
        sheets = (SIX, FIVE, KITE, LONELY, CROWD, HUB, FORK, ROUND, LADDER, STUCK)
        self.assertEqual([most_any(sheet) for sheet in sheets], [6, 5, 4, 3, 8, 0, 3, 8, 8, 0])
        self.assertEqual([most_any(sheet, rows=True) for sheet in sheets], [6, 5, 4, 3, 8, 0, 3, 8, 8, 0])
        self.assertEqual([most_any(sheet, rows=False) for sheet in sheets], [5, 5, 4, 0, 8, 0, 3, 8, 0, 0])

    def test_any_plan(self):
        for sheet in (SIX, FIVE, KITE, LONELY, CROWD, HUB, FORK, ROUND, LADDER, STUCK):
            plan, rings = any_plan(sheet), any_plan(sheet, rows=False)
            self.assertTrue(is_plan(sheet, plan) and is_plan(sheet, rings))
            self.assertEqual((len(plan), len(rings), rings.ends), (most_any(sheet), most_any(sheet, rows=False), ()))
        self.assertEqual(any_plan(LONELY).parts, ((("a", "b", "c"), "e"),))
        self.assertEqual(any_plan(ROUND).parts, ((EIGHT, ""),))

    def test_two_rows_and_rings_together(self):
        sheet = ((("a", ("b",)), ("b", ("a", "x")), ("c", ("d",)), ("d", ("y",)), ("e", ("x",))), ("x", "y"))
        self.assertEqual(any_plan(sheet).parts, ((("a", "b"), ""), (("c", "d"), "y"), (("e",), "x")))
        self.assertEqual((most_any(sheet), most_any(sheet, rows=False)), (5, 2))


class AboutPrices(unittest.TestCase):
    LONE = ((("a", ("b",)), ("b", ())), ())

    def test_reading(self):
        prices = Prices((("ann", 3), ("bob", -2)), (("ann", 0), ("bob", 1), ("new", 5)))
        self.assertEqual((prices["ann"], prices["bob"], prices("ann"), prices("bob"), prices(name="new")), (3, -2, 0, 1, 5))
        self.assertEqual((len(prices), prices.total), (5, 7))
        self.assertEqual(prices.pairs, ((("ann", 3), ("bob", -2)), (("ann", 0), ("bob", 1), ("new", 5))))
        self.assertEqual((len(Prices((), ())), Prices((), ()).total, Prices((), ()).pairs), (0, 0, ((), ())))

    def test_nothing_can_be_set(self):
        for word in ("total", "pairs"):
            self.assertRaises(AttributeError, setattr, PRICES, word, 0)

    def test_lists_and_copies(self):
        by_household, by_home = [["a", 1], ["b", 0]], [["a", 0]]
        prices = Prices(homes=by_home, households=by_household)
        by_household[0][1] = 9
        by_home.append(["c", 1])
        self.assertEqual(prices.pairs, ((("a", 1), ("b", 0)), (("a", 0),)))
        self.assertEqual((prices["a"], len(prices), prices.total), (1, 3, 1))

    def test_equal(self):
        prices = Prices((("a", 1),), (("b", 2),))
        self.assertTrue(prices == Prices([["a", 1]], [["b", 2]]))
        self.assertFalse(prices != Prices((("a", 1),), (("b", 2),)))
        others = (
            Prices((("a", 2),), (("b", 1),)), Prices((("b", 2),), (("a", 1),)), Prices((("a", 1),), ()), Prices((), (("b", 2),)),
            prices.pairs, (), None, 3, Plan(), Order(("a",)), Plan((("a",), "b")),
        )
        for other in others:
            with self.subTest(other=other):
                self.assertIs(prices == other, False)
                self.assertIs(other == prices, False)
                self.assertIs(prices != other, True)

    def test_wrong_names(self):
        prices = Prices((("a", 1),), (("b", 2),))
        self.assertEqual(raised(lambda: prices["b"]), (NoHousehold, {"name": "b"}))
        self.assertEqual(raised(lambda: prices("a")), (NoHome, {"home": "a"}))
        self.assertEqual(raised(lambda: Prices((), ())["a"]), (NoHousehold, {"name": "a"}))
        self.assertEqual((prices["a"], prices("b")), (1, 2))

    def test_prices_of(self):
        for sheet in (SIX, FIVE, KITE, LONELY, CROWD, HUB, FORK, ROUND, LADDER, STUCK, self.LONE):
            with self.subTest(sheet=sheet):
                prices = prices_of(sheet)
                self.assertIs(prices.__class__, Prices)
                self.assertIs(are_prices(sheet, prices), True)
                self.assertEqual(prices.total, most_any(sheet))
                self.assertEqual(prices_of(lists(sheet)), prices)

    def test_are_prices(self):
        right = (
            ((("a", 0), ("b", -1)), (("a", 0), ("b", 1))),
            ((("a", 1), ("b", 0)), (("a", 0), ("b", 0))),
            ((("a", -3), ("b", -4)), (("a", 3), ("b", 4))),
            ((("a", 7), ("b", 8)), (("a", 9), ("b", 10))),
        )
        for pairs in right:
            self.assertIs(are_prices(self.LONE, Prices(*pairs)), True)
            self.assertIs(are_prices(lists(self.LONE), Prices(*pairs)), True)
        wrong = (
            ((("a", 0), ("b", 0)), (("a", 0), ("b", 0))),
            ((("a", 2), ("b", 1)), (("a", 0), ("b", -1))),
            ((("a", 2), ("b", 1)), (("a", -1), ("b", 0))),
            ((("a", 1), ("b", -1)), (("a", 0), ("b", 0))),
            ((("a", -1), ("b", -2)), (("a", 0), ("b", 2))),
            ((("a", 1),), (("a", 0), ("b", 0))),
            ((("b", 1),), (("a", 0), ("b", 0))),
            ((("a", 1), ("b", 0)), (("a", 0),)),
            ((("a", 1), ("b", 0), ("c", 0)), (("a", 0), ("b", 0))),
            ((("a", 1), ("b", 0)), (("a", 0), ("b", 0), ("c", 0))),
            ((("a", 1), ("c", 0)), (("a", 0), ("b", 0))),
            ((), (("a", 0), ("b", 0))),
            ((("a", 1), ("b", 0)), ()),
        )
        for pairs in wrong:
            with self.subTest(pairs=pairs):
                self.assertIs(are_prices(self.LONE, Prices(*pairs)), False)

    def test_each_empty_home_has_a_price(self):
        pairs = (("a", 0), ("b", 0)), (("a", 1), ("b", 0), ("x", 0), ("y", 0))
        self.assertIs(are_prices(STUCK, Prices(*pairs)), True)
        self.assertIs(are_prices(STUCK, Prices(pairs[0], pairs[1][:3])), False)
        self.assertIs(are_prices(STUCK, Prices(pairs[0], (*pairs[1][:3], ("y", -1)))), False)

    def test_other_things(self):
        lone = Prices((("a", 1), ("b", 0)), (("a", 0), ("b", 0)))
        for thing in (*ODD_THINGS, lone.pairs, [lone], (lone,), "lone"):
            with self.subTest(thing=thing):
                self.assertIs(are_prices(self.LONE, thing), False)
        self.assertIs(are_prices(NOBODY, Prices((), ())), True)
        self.assertIs(are_prices(NOBODY, ((), ())), False)


class Extras(unittest.TestCase):
    def test_gains(self):
        self.assertEqual([list(gains(sheet)) for sheet in (SIX, FIVE, HUB, FORK, LADDER, STUCK, LONELY)], [[], [1], [2, 1], [1], [], [2], [1]])
        self.assertEqual([fewest_extras(sheet) for sheet in (SIX, FIVE, HUB, FORK, LADDER, STUCK, LONELY)], [0, 1, 2, 1, 0, 1, 1])
        nothing = (tuple((name, ()) for name in EIGHT), ())
        self.assertEqual((list(gains(nothing)), crowd(nothing)), ([1] * 8, EIGHT))
        rows = (LADDER[0], ())
        self.assertEqual((list(gains(rows)), crowd(rows)), ([8], ("a",)))

    def test_gains_is_a_generator(self):
        found = gains(HUB)
        self.assertIsInstance(found, types.GeneratorType)
        self.assertEqual((next(found), next(found), next(found, None)), (2, 1, None))

    def test_crowd(self):
        self.assertEqual([crowd(sheet) for sheet in (SIX, HUB, FORK, CROWD, ROUND)], [(), ("a", "b", "c"), ("a", "d"), (), ()])
        self.assertEqual((crowd(STUCK), crowd(LONELY), crowd(FIVE)), (("a",), ("d",), ("ann", "cat", "dan", "eve", "fay")))

    def test_worth_of(self):
        self.assertEqual((worth_of(LADDER, "x"), worth_of(CROWD, "x"), worth_of(STUCK, "y")), (8, 0, 0))
        # With further empty homes it is worth no more.
        self.assertEqual(worth_of(((("a", ("x", "y")),), ("x",)), "x"), 1)
        self.assertEqual(worth_of(((("a", ("x", "y")),), ("x", "y")), "x"), 0)


class SureAndMaybe(unittest.TestCase):
    def test_six(self):
        self.assertEqual((surely_moves(SIX), may_move(SIX)), (EVERYBODY, EVERYBODY))
        self.assertEqual(surely_take(SIX), [("ann", "bob"), ("bob", "ann"), ("fay", "new")])
        self.assertEqual(
            may_take(SIX),
            [("ann", "bob"), ("bob", "ann"), ("cat", "dan"), ("cat", "eve"), ("dan", "cat"), ("dan", "eve"), ("eve", "cat"),
             ("eve", "dan"), ("fay", "new")],
        )

    def test_some_move_in_some(self):
        self.assertEqual((surely_moves(FORK), may_move(FORK)), (("b", "c", "d"), ("b", "c", "d")))
        two = ((("a", ("x",)), ("b", ("x",))), ("x",))
        self.assertEqual((surely_moves(two), may_move(two), surely_take(two)), ((), ("a", "b"), []))
        self.assertEqual(may_take(two), [("a", "x"), ("b", "x")])
        # a moves in any case, to the one home or the other.
        both = ((("a", ("x", "y")),), ("x", "y"))
        self.assertEqual((surely_moves(both), surely_take(both), may_take(both)), (("a",), [], [("a", "x"), ("a", "y")]))

    def test_nobody_and_everybody(self):
        for sheet in (HUB, STUCK):
            self.assertEqual((surely_moves(sheet), may_move(sheet), surely_take(sheet), may_take(sheet)), ((), (), [], []))
        ring = list(zip("abcdefgh", "bcdefgha"))
        self.assertEqual((surely_moves(ROUND), surely_take(ROUND), may_take(ROUND)), (EIGHT, ring, ring))
        self.assertEqual((surely_moves(CROWD), may_move(CROWD), surely_take(CROWD)), (EIGHT, EIGHT, []))
        self.assertEqual(may_take(CROWD), [(name, home) for name in EIGHT for home in "abcdefghxyz" if home != name])


class TogetherByOne(unittest.TestCase):
    def test_move_together(self):
        self.assertEqual([move_together(FORK, some) for some in (("a", "b"), ("b", "c", "d"), ("a", "c"), ("a", "d"), ("a",))], [True, True, False, False, True])
        self.assertEqual([move_together(FIVE, some) for some in ((), ("ann",), ("fay",), EVERYBODY, EVERYBODY[:5])], [True, True, False, False, True])
        self.assertEqual([move_together(sheet, EIGHT) for sheet in (CROWD, ROUND, LADDER)], [True] * 3)
        # The others may move, or keep their homes.
        self.assertIs(move_together(ROUND, ("c",)), True)
        self.assertIs(move_together(LADDER, ("a", "b")), True)

    def test_why_stuck(self):
        self.assertEqual((why_stuck(FORK, ("a", "b")), why_stuck(FORK, ("b", "c", "d")), why_stuck(SIX, ())), (None, None, None))
        self.assertEqual((why_stuck(FORK, ("a", "d")), why_stuck(FORK, ("a", "b", "c", "d"))), (("a", "d"), ("a", "d")))
        # c moves to d, d to b, then a, which wants b alone, has none: who must not stay has its own home not open.
        self.assertEqual(why_stuck(FORK, ("a", "c")), ("a", "c", "d"))
        self.assertEqual((why_stuck(HUB, ("a",)), why_stuck(HUB, ("b",)), why_stuck(HUB, ("b", "c"))), (("a",), ("a", "b"), ("a", "b", "c")))
        self.assertEqual((why_stuck(STUCK, ("a",)), why_stuck(STUCK, ("b",)), why_stuck(STUCK, ("a", "b"))), (("a",), ("a", "b"), ("a",)))

    def test_kept_any(self):
        self.assertEqual(kept_any(FORK, ("a", "b", "c", "d")), ("a", "b"))
        self.assertEqual(kept_any(FORK, ("d", "a", "b", "c")), ("b", "c", "d"))
        self.assertEqual((kept_any(HUB, ("c", "b", "a")), kept_any(STUCK, ("b", "a"))), ((), ()))
        self.assertEqual((kept_any(CROWD, EIGHT), kept_any(LADDER, EIGHT[::-1])), (EIGHT, EIGHT))
        for form in (Order(("c", "a", "b", "d")), ["c", "a", "b", "d"]):
            self.assertEqual(kept_any(FORK, form), ("b", "c", "d"))


class Fewest(unittest.TestCase):
    def test_fewest(self):
        self.assertEqual([with_fewest(SIX, name) for name in EVERYBODY], [2, 2, 2, 2, 2, 1])
        self.assertEqual([with_fewest(FORK, name) for name in "abcd"], [2, 2, 3, 3])
        self.assertEqual([with_fewest(ROUND, name) for name in EIGHT], [8] * 8)
        self.assertEqual([with_fewest(LADDER, name) for name in EIGHT], [1, 2, 3, 4, 5, 6, 7, 8])
        self.assertEqual([with_fewest(LONELY, name) for name in "abcd"], [3, 2, 1, None])
        self.assertEqual([with_fewest(CROWD, name) for name in EIGHT], [1] * 8)
        for sheet in (HUB, STUCK):
            for name, _ in sheet[0]:
                self.assertEqual((with_fewest(sheet, name), with_part(sheet, name)), (None, None))

    def test_parts(self):
        self.assertEqual([with_part(FORK, name) for name in "acd"], [(("a", "b"), "")] + [(("b", "c", "d"), "")] * 2)
        self.assertEqual([with_part(ROUND, name) for name in "ae"], [(EIGHT, "")] * 2)
        self.assertEqual((with_part(LADDER, "c"), with_part(LONELY, "a")), ((("c", "b", "a"), "x"), (("a", "b", "c"), "e")))
        for sheet in (SIX, FIVE, KITE, CROWD, FORK):
            for name, _ in sheet[0]:
                part = with_part(sheet, name)
                if part is not None:
                    self.assertTrue(is_part(part) and is_plan(sheet, Plan(part)) and name in part[0])
                    self.assertEqual(len(part[0]), with_fewest(sheet, name))

    def test_a_short_row_ahead_of_a_long_ring(self):
        sheet = ((("a", ("b",)), ("b", ("c",)), ("c", ("a", "d")), ("d", ("x",))), ("x",))
        self.assertEqual([with_fewest(sheet, name) for name in "abcd"], [3, 3, 2, 1])
        self.assertEqual((with_part(sheet, "a"), with_part(sheet, "c")), ((("a", "b", "c"), ""), (("c", "d"), "x")))
        # A ring of three, or a row of three.
        self.assertIn(with_part(sheet, "b"), [(("a", "b", "c"), ""), (("b", "c", "d"), "x")])


class Rings(unittest.TestCase):
    def test_most_rings(self):
        self.assertEqual([most_rings(SIX, longest=many) for many in (2, 3, 4, 5, 6, 7)], [4, 5, 5, 5, 5, 5])
        self.assertEqual([most_rings(FORK, longest=many) for many in (2, 3, 4)], [2, 3, 3])
        self.assertEqual([most_rings(ROUND, longest=many) for many in (2, 7, 8, 9, 10 ** 30)], [0, 0, 8, 8, 8])
        self.assertEqual([most_rings(CROWD, longest=many) for many in range(2, 10)], [8] * 8)
        self.assertEqual([most_rings(sheet) for sheet in (LADDER, HUB, LONELY, STUCK)], [0] * 4)

    def test_three_unless_told(self):
        for sheet in (SIX, FORK, ROUND, KITE):
            self.assertEqual((most_rings(sheet), rings_plan(sheet)), (most_rings(sheet, longest=3), rings_plan(sheet, longest=3)))

    def test_rings_plan(self):
        for sheet in (SIX, FIVE, FORK, ROUND, KITE, CROWD, LADDER, STUCK):
            for longest in (2, 3, 4, 8, 10 ** 9):
                plan = rings_plan(sheet, longest=longest)
                self.assertTrue(is_plan(sheet, plan))
                self.assertEqual((len(plan), plan.ends), (most_rings(sheet, longest=longest), ()))
                self.assertTrue(all(len(names) <= longest for names, _ in plan.parts))

    def test_empty_homes_are_no_way(self):
        sheet = ((("a", ("x",)), ("b", ("a",)), ("c", ("b", "d")), ("d", ("c",))), ("x",))
        self.assertEqual((most_rings(sheet, longest=4), most_any(sheet), most_any(sheet, rows=False)), (2, 4, 2))


class Wrong(unittest.TestCase):
    def check(self, error, kept, *calls):
        for at, call in enumerate(calls):
            with self.subTest(kept=kept, at=at):
                self.assertEqual(raised(call), (error, kept))

    def test_sets(self):
        for names, first in ((("zoe",), "zoe"), (("ann", "new"), "new"), (("ann", "bea", "zoe"), "bea"), (["bea", "cat"], "bea")):
            self.check(
                NoHousehold, {"name": first}, lambda: move_together(SIX, names), lambda: why_stuck(SIX, names),
                lambda: move_together(lists(SIX), names), lambda: why_stuck(FIVE, names),
            )

    def test_orders(self):
        for line, first in ((("zoe", *EVERYBODY), "zoe"), ((*EVERYBODY, "new"), "new"), (("ann", "zoe", "bea"), "zoe")):
            self.check(
                NoHousehold, {"name": first}, lambda: kept_any(SIX, line), lambda: kept_any(SIX, list(line)), lambda: kept_any(SIX, Order(line)),
            )

    def test_names(self):
        for name in ("zoe", "new"):
            self.check(
                NoHousehold, {"name": name}, lambda: with_fewest(SIX, name), lambda: with_part(SIX, name), lambda: with_part(NOBODY, name),
            )

    def test_empty_homes(self):
        for home in ("zoe", "ann"):
            self.check(NoHome, {"home": home}, lambda: worth_of(SIX, home), lambda: worth_of(NOBODY, home))
        # Wished for, but not there.
        self.check(NoHome, {"home": "e"}, lambda: worth_of(STUCK, "e"))

    def test_bounds(self):
        for longest in (1, 0, -1, -(10 ** 20)):
            self.check(
                BadBound, {"bound": longest},
                lambda: most_rings(SIX, longest=longest), lambda: rings_plan(SIX, longest=longest),
                lambda: most_rings(NOBODY, longest=longest), lambda: rings_plan(NOBODY, longest=longest),
            )


if __name__ == "__main__":
    unittest.main()
