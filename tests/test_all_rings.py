"""Rings and rows of any length beside a plain trying of all ways to give homes: promises [8] and [9]."""

import itertools
import random
import unittest

from crosshomes.changes import (
    cap_by_empty, cap_by_wish, gain_by_empty, gain_by_wish, loss_by_empty, loss_by_wish,
)
from crosshomes.data import homes, households
from crosshomes.orders import Order
from crosshomes.plans import Plan, is_part, is_plan
from crosshomes.rings import (
    Prices, any_plan, are_prices, crowd, fewest_extras, gains, kept_any, may_move, may_take, most_any, most_rings,
    move_together, prices_of, rings_plan, surely_moves, surely_take, why_stuck, with_fewest, with_part, worth_of,
)
from crosshomes.swaps import most_swaps
from tests.helper import (
    moves_of, plain_homes, plain_part_names, plain_plans, random_sheets, shuffled, subsets,
)


def all_sheets(many, empties):
    """Every SHEET of so many households and these empty homes."""
    names = "abcd"[:many]
    choices = [subsets(sorted([*[other for other in names if other != name], *empties])) for name in names]
    return [(tuple(zip(names, wants)), empties) for wants in itertools.product(*choices)]


def most(sheet, rows=True):
    return max(len(moves) for moves in plain_plans(sheet, rows))


def wished(sheet, name, home, whether):
    """The SHEET in which this household wants this home, or does not."""
    rows = []
    for other, wants in sheet[0]:
        chosen = set(wants) - {home} | ({home} if whether else set()) if other == name else wants
        rows.append((other, tuple(sorted(chosen))))
    return tuple(rows), sheet[1]


def with_more(sheet, home, wanting):
    """The SHEET with one more empty home, which just these want."""
    rows = [(name, tuple(sorted({*wants, home} if name in wanting else {*wants} - {home}))) for name, wants in sheet[0]]
    return tuple(rows), tuple(sorted([*sheet[1], home]))


def plain_are_prices(sheet, by_household, by_home):
    if set(by_household) != set(households(sheet)) or set(by_home) != set(homes(sheet)):
        return False
    if any(number < 0 for number in by_home.values()):
        return False
    choices = plain_homes(sheet)
    return all(
        by_household[name] + by_home[home] >= (0 if home == name else 1) for name in choices for home in choices[name]
    )


def beyond(names, ways):
    """The least set with the greatest number of members less homes to which the ways of some of them lead, and this number."""
    best = max(len(some) - len({home for name in some for home in ways[name]}) for some in subsets(names))
    found = [some for some in subsets(names) if len(some) - len({home for name in some for home in ways[name]}) == best]
    fewest = [some for some in found if len(some) == len(found[0])]
    return fewest, best


SMALL = [sheet for many in range(4) for sheet in all_sheets(many, ())] + [sheet for many in range(3) for sheet in all_sheets(many, ("x", "y"))]


class AllPlans(unittest.TestCase):
    def check_most(self, sheet, plans):
        now = max(len(moves) for moves in plans)
        rings = most(sheet, rows=False)
        self.assertEqual((most_any(sheet), most_any(sheet, rows=True), most_any(sheet, rows=False)), (now, now, rings))
        for rows, many in ((True, now), (False, rings)):
            plan = any_plan(sheet, rows=rows)
            self.assertTrue(is_plan(sheet, plan))
            self.assertEqual(len(plan), many)
            self.assertTrue(rows or plan.ends == ())
            self.assertIn(moves_of(plan), plans)
        prices = prices_of(sheet)
        self.assertTrue(plain_are_prices(sheet, dict(prices.pairs[0]), dict(prices.pairs[1])))
        self.assertEqual((prices.total, are_prices(sheet, prices)), (now, True))
        for empty in sheet[1]:
            less = most((sheet[0], tuple(home for home in sheet[1] if home != empty)))
            self.assertEqual((worth_of(sheet, empty), loss_by_empty(sheet, empty)), (now - less, now - less))

    def check_sure(self, sheet, plans):
        now = max(len(moves) for moves in plans)
        best = [moves for moves in plans if len(moves) == now]
        names = households(sheet)
        self.assertEqual(surely_moves(sheet), tuple(name for name in names if all(name in moves for moves in best)))
        self.assertEqual(may_move(sheet), tuple(name for name in names if any(name in moves for moves in best)))
        taken = sorted({pair for moves in best for pair in moves.items()})
        self.assertEqual(may_take(sheet), taken)
        self.assertEqual(surely_take(sheet), [pair for pair in taken if all(pair in moves.items() for moves in best)])

    def check_extras(self, sheet):
        choices = plain_homes(sheet)
        names = list(choices)
        now, found, larger = most(sheet), [], sheet
        for extra in ("ya", "yb", "yc", "yd", "ye"):
            if now < len(names):
                larger = with_more(larger, extra, names)
                then = most(larger)
                found.append(then - now)
                now = then
        self.assertEqual((list(gains(sheet)), fewest_extras(sheet)), (found, len(found)))
        fewest, best = beyond(names, {name: choices[name][1:] for name in names})
        self.assertEqual((fewest, best), ([crowd(sheet)], len(found)))

    def check_together(self, sheet, plans):
        choices = plain_homes(sheet)
        for some in subsets(list(choices)):
            able = any(set(some) <= set(moves) for moves in plans)
            self.assertIs(move_together(sheet, some), able)
            if able:
                self.assertIsNone(why_stuck(sheet, some))
            else:
                open_homes = {name: choices[name][1:] if name in some else choices[name] for name in choices}
                fewest, best = beyond(list(choices), open_homes)
                self.assertEqual(fewest, [why_stuck(sheet, some)])
                self.assertGreater(best, 0)

    def check_fewest(self, sheet, plans):
        for name in households(sheet):
            counts = [len(moves) for moves in plans if name in moves]
            self.assertEqual(with_fewest(sheet, name), min(counts, default=None))
            part = with_part(sheet, name)
            if counts:
                self.assertTrue(is_part(part) and name in part[0] and is_plan(sheet, Plan(part)))
                self.assertEqual(len(part[0]), min(counts))
            else:
                self.assertIsNone(part)

    def check_rings(self, sheet, plans):
        rings = plain_plans(sheet, rows=False)
        for longest in range(2, len(sheet[0]) + 2):
            short = [moves for moves in rings if all(len(names) <= longest for names in plain_part_names(moves))]
            many = max(len(moves) for moves in short)
            plan = rings_plan(sheet, longest=longest)
            self.assertEqual((most_rings(sheet, longest=longest), len(plan)), (many, many))
            self.assertIn(moves_of(plan), short)
            self.assertTrue(is_plan(sheet, plan))

    def check(self, sheet):
        plans = plain_plans(sheet)
        self.check_most(sheet, plans)
        self.check_sure(sheet, plans)
        self.check_together(sheet, plans)
        self.check_fewest(sheet, plans)
        self.check_rings(sheet, plans)
        self.check_extras(sheet)

    def test_all_small_sheets(self):
        self.assertEqual(len(SMALL), 1 + 1 + 4 + 64 + 1 + 4 + 64)
        for sheet in SMALL:
            with self.subTest(sheet=sheet):
                self.check(sheet)

    def test_many_sheets(self):
        for sheet in random_sheets(31, 150, 4):
            with self.subTest(sheet=sheet):
                self.check(sheet)

    def test_sheets_of_five_and_six(self):
        for sheet in [one for one in random_sheets(32, 60, 6) if len(one[0]) > 4]:
            plans = plain_plans(sheet)
            with self.subTest(sheet=sheet):
                self.check_most(sheet, plans)
                self.check_sure(sheet, plans)
                self.check_together(sheet, plans)
                self.check_fewest(sheet, plans)
                self.check_rings(sheet, plans)

    def test_swaps_are_rings_of_two(self):
        for sheet in random_sheets(33, 100, 8):
            self.assertEqual(most_rings(sheet, longest=2), most_swaps(sheet))
            self.assertEqual(most_rings(sheet, longest=max(2, len(sheet[0]))), most_any(sheet, rows=False))

    def test_kept_any(self):
        chance = random.Random(34)
        for sheet in random_sheets(34, 150, 5):
            plans = [set(moves) for moves in plain_plans(sheet)]
            order = shuffled(chance, households(sheet))
            found = set()
            for name in order:
                if any(found | {name} <= moves for moves in plans):
                    found.add(name)
            self.assertEqual((kept_any(sheet, order), kept_any(sheet, Order(order))), (tuple(sorted(found)),) * 2)


class AllPrices(unittest.TestCase):
    def test_all_prices_of_small_sheets(self):
        """Each choice of numbers from -1 to 1, of homes from 0 to 1 and -1."""
        for sheet in all_sheets(2, ()) + all_sheets(1, ("x",)) + [((), ("x",)), ((), ())]:
            names, there = households(sheet), homes(sheet)
            for numbers in itertools.product((-1, 0, 1, 2), repeat=len(names)):
                for costs in itertools.product((-1, 0, 1), repeat=len(there)):
                    prices = Prices(tuple(zip(names, numbers)), tuple(zip(there, costs)))
                    right = plain_are_prices(sheet, dict(zip(names, numbers)), dict(zip(there, costs)))
                    self.assertIs(are_prices(sheet, prices), right)
                    if right:
                        self.assertGreaterEqual(prices.total, most_any(sheet))

    def test_drawn_prices(self):
        chance = random.Random(35)
        held = 0
        for sheet in random_sheets(35, 400, 4):
            base = prices_of(sheet)
            by_household = {name: number + chance.choice((0, 0, 0, 1, -1)) for name, number in base.pairs[0]}
            by_home = {name: number + chance.choice((0, 0, 0, 1, -1)) for name, number in base.pairs[1]}
            prices = Prices(tuple(by_household.items()), tuple(by_home.items()))
            right = plain_are_prices(sheet, by_household, by_home)
            held += right
            self.assertIs(are_prices(sheet, prices), right)
            if right:
                self.assertGreaterEqual(prices.total, most_any(sheet))
        self.assertTrue(50 < held < 350)


class AllChanges(unittest.TestCase):
    def check(self, sheet):
        now = most(sheet)
        prices = prices_of(sheet)
        wants = dict(sheet[0])
        for name in households(sheet):
            for home in homes(sheet):
                if home != name:
                    gain, loss = most(wished(sheet, name, home, True)) - now, now - most(wished(sheet, name, home, False))
                    self.assertEqual((gain_by_wish(sheet, name, home), loss_by_wish(sheet, name, home)), (gain, loss))
                    self.assertEqual(0, loss if home not in wants[name] else gain)
                    cap = max(0, 1 - prices[name] - prices(home))
                    self.assertEqual(cap_by_wish(sheet, prices, name, home), cap)
                    self.assertLessEqual(gain, cap)
        for wanting in subsets(households(sheet)):
            gain = most(with_more(sheet, "zz", wanting)) - now
            cap = max([0, *[1 - prices[name] for name in wanting]])
            self.assertEqual((gain_by_empty(sheet, wanting), cap_by_empty(sheet, prices, wanting)), (gain, cap))
            self.assertLessEqual(gain, cap)

    def test_all_small_sheets(self):
        for sheet in SMALL:
            with self.subTest(sheet=sheet):
                self.check(sheet)

    def test_many_sheets(self):
        for sheet in random_sheets(36, 60, 4):
            with self.subTest(sheet=sheet):
                self.check(sheet)

    def test_sheets_of_five(self):
        for sheet in [one for one in random_sheets(37, 30, 5) if len(one[0]) == 5]:
            with self.subTest(sheet=sheet):
                self.check(sheet)


if __name__ == "__main__":
    unittest.main()
