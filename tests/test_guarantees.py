"""What [1] promises over the whole, (c) to (f), between the functions, on drawn SHEETs up to the bounds of [3]."""

import random
import unittest

from crosshomes.changes import (
    can_leave, cap_by_empty, cap_by_wish, fewest_pairs, gain_by_empty, gain_by_household, gain_by_pair, gain_by_wish,
    helping_pairs, loss_by_empty, loss_by_household, loss_by_pair, loss_by_wish, most_leaving,
)
from crosshomes.data import homes, households, joined_by, opened, suited_to, wants_of, without
from crosshomes.orders import (
    Order, by_classes, can_move, is_why_not, kept, maybe_in, more_from, most_of, pushed_out, sure_in, walk, why_left,
    why_not, worth,
)
from crosshomes.plans import Plan, is_plan, left_of
from crosshomes.rings import (
    any_plan, are_prices, crowd, fewest_extras, gains, kept_any, may_move, may_take, most_any, most_rings, move_together,
    prices_of, rings_plan, surely_moves, surely_take, why_stuck, with_fewest, with_part, worth_of,
)
from crosshomes.swaps import is_barrier, kinds, leaves, most_swaps, parts_in, suiting
from crosshomes.withdrawals import (
    are_told_prices, calmest, fewest_told, most_repaired, repair, rest_sheet, safe_for, safest, told_prices, weak_ones,
    worst_gone,
)
from tests.helper import CROWD, LONELY, NOBODY, SIX, random_sheets, shuffled

SHEETS = [NOBODY, SIX, LONELY, CROWD, *random_sheets(51, 80, 8)]


def drawn(chance, names):
    return tuple(name for name in names if chance.random() < 0.5)


class AnOrderCostsNobody(unittest.TestCase):
    """(c)"""

    def each(self, seed):
        chance = random.Random(seed)
        for sheet in SHEETS:
            yield chance, sheet, shuffled(chance, households(sheet))

    def test_as_many_as_can_be_all_together(self):
        for _, sheet, order in self.each(1):
            found = kept(sheet, order)
            self.assertIs(can_move(sheet, found), True)
            self.assertEqual((len(found), most_of(sheet, households(sheet))), (most_swaps(sheet), most_swaps(sheet)))
            self.assertIsNone(why_not(sheet, found))

    def test_there_is_a_reason_for_everybody_else(self):
        for _, sheet, order in self.each(2):
            found, ahead = kept(sheet, order), []
            for name, whether in walk(sheet, order):
                some = tuple(sorted([*ahead, name]))
                reason = why_left(sheet, order, name)
                self.assertEqual((whether, reason is None, can_move(sheet, some)), (name in found,) * 3)
                if whether:
                    ahead.append(name)
                else:
                    self.assertIs(is_why_not(sheet, some, reason), True)

    def test_the_reason_for_all_is_a_barrier(self):
        for _, sheet, _ in self.each(3):
            reason = why_not(sheet, households(sheet))
            if reason is not None:
                self.assertIs(is_barrier(sheet, reason), True)
                self.assertIs(is_why_not(sheet, households(sheet), kinds(sheet)[1]), True)

    def test_the_earliest_that_is_just_in_one_is_kept(self):
        for chance, sheet, order in self.each(4):
            found = kept(sheet, order)
            for _ in range(10):
                other = kept(sheet, shuffled(chance, order))
                some = drawn(chance, other)
                for rest in (other, some):
                    self.assertIs(Order(order).ahead(found, rest), rest != found)

    def test_further_ahead_is_never_worse(self):
        for chance, sheet, order in self.each(5):
            found = kept(sheet, order)
            for name in order:
                line = Order(order)
                line[name] = chance.randint(0, line[name])
                then = kept(sheet, line)
                self.assertTrue(name not in found or then == found)
                out = pushed_out(sheet, order, name)
                first = kept(sheet, order, first=(name,))
                if name in found or not suited_to(sheet, name):
                    self.assertEqual((out, first), (None, found))
                else:
                    self.assertEqual(first, tuple(sorted({*found, name} - {out})))
                    self.assertIn(out, found)

    def test_classes(self):
        for chance, sheet, order in self.each(6):
            names = households(sheet)
            first = drawn(chance, names)
            classes = (first, (), tuple(name for name in names if name not in first))
            counts, sure, maybe = by_classes(sheet, classes), sure_in(sheet, classes), maybe_in(sheet, classes)
            found = kept(sheet, order, first=tuple(name for name in order if name in first))
            self.assertEqual(counts, [len(set(found) & set(some)) for some in classes])
            self.assertEqual(sum(counts), most_swaps(sheet))
            self.assertTrue(set(sure) <= set(found) <= set(maybe))
            # In one class: who moves in all best SWAPS, and who suits anybody.
            self.assertEqual(sure_in(sheet, (names,)), tuple(name for name in names if name not in kinds(sheet)[0]))
            self.assertEqual(maybe_in(sheet, (names,)), tuple(name for name in names if suited_to(sheet, name)))

    def test_more_and_worth(self):
        for chance, sheet, order in self.each(7):
            found = kept(sheet, order)
            some, other = drawn(chance, found), drawn(chance, kept(sheet, order[::-1]))
            more = more_from(sheet, some, other)
            self.assertTrue(len(other) <= len(some) or more is not None)
            if more is not None:
                self.assertTrue(more in other and more not in some and can_move(sheet, tuple(sorted([*some, more]))))
            worths = {name: 2 ** (len(order) - at) for at, name in enumerate(order)}
            by_sheet = tuple(worths[name] for name in households(sheet))
            self.assertEqual(worth(sheet, by_sheet), sum(worths[name] for name in found))
            self.assertEqual(worth(sheet, tuple(1 for _ in by_sheet)), most_swaps(sheet))


class OneThingMore(unittest.TestCase):
    """(d)"""

    def test_households(self):
        for sheet in SHEETS:
            names, staying = households(sheet), kinds(sheet)[0]
            for name in names:
                with self.subTest(sheet=sheet, name=name):
                    self.assertEqual(gain_by_household(sheet, (name,)), 2 if name in staying else 0)
                    self.assertEqual(loss_by_household(sheet, name), most_swaps(sheet) - most_swaps(without(sheet, (name,))))
                    self.assertEqual((loss_by_household(sheet, name) == 0, can_leave(sheet, (name,))), (leaves(sheet, name) is not None,) * 2)
            self.assertEqual(gain_by_household(sheet, names), 2 if staying else 0)

    def test_a_household_that_comes(self):
        chance = random.Random(52)
        for sheet in [one for one in SHEETS if len(one[0]) < 8]:
            chosen = drawn(chance, households(sheet))
            rows = [(name, sorted({*wants, "zz"} if name in chosen else {*wants})) for name, wants in sheet[0]]
            larger = joined_by((rows, sheet[1]), "zz", chosen)
            self.assertEqual(gain_by_household(sheet, chosen), most_swaps(larger) - most_swaps(sheet))

    def test_pairs(self):
        for sheet in SHEETS:
            staying = kinds(sheet)[0]
            parts = parts_in(sheet, staying)
            helping = helping_pairs(sheet)
            for one, other in helping:
                self.assertEqual((gain_by_pair(sheet, one, other), gain_by_pair(sheet, other, one)), (2, 2))
                self.assertTrue(one in staying and other in staying)
                self.assertFalse(any(one in part and other in part for part in parts))
            self.assertEqual(bool(helping), fewest_pairs(sheet) > 0)
            for one, other in suiting(sheet):
                self.assertEqual(gain_by_pair(sheet, one, other), 0)
                self.assertIn(loss_by_pair(sheet, other, one), (0, 2))
            self.assertEqual(fewest_pairs(sheet), (len(households(sheet)) - most_swaps(sheet)) // 2)

    def test_leaving(self):
        chance = random.Random(53)
        for sheet in SHEETS:
            some = drawn(chance, households(sheet))
            others = tuple(name for name in households(sheet) if name not in some)
            many = most_leaving(sheet, some)
            self.assertEqual(many, len(some) + most_of(sheet, others) - most_swaps(sheet))
            self.assertEqual(can_leave(sheet, some), many == len(some))
            self.assertEqual(can_leave(sheet, some), most_swaps(without(sheet, some)) == most_swaps(sheet))

    def test_wishes(self):
        chance = random.Random(54)
        for sheet in [one for one in SHEETS if one[0]]:
            prices = prices_of(sheet)
            for name in chance.sample(households(sheet), 1):
                for home in [one for one in homes(sheet) if one != name]:
                    rows = [(one, sorted({*wants, home} if one == name else {*wants})) for one, wants in sheet[0]]
                    gain, loss = gain_by_wish(sheet, name, home), loss_by_wish(sheet, name, home)
                    self.assertEqual(gain, most_any((rows, sheet[1])) - most_any(sheet))
                    self.assertTrue(0 <= gain <= cap_by_wish(sheet, prices, name, home))
                    self.assertTrue(gain == 0 if home in wants_of(sheet, name) else loss == 0)
                    self.assertEqual(loss > 0, (name, home) in surely_take(sheet))

    def test_empty_homes(self):
        chance = random.Random(55)
        for sheet in SHEETS:
            prices = prices_of(sheet)
            wanting = drawn(chance, households(sheet))
            rows = [(one, sorted({*wants, "zz"} if one in wanting else {*wants})) for one, wants in sheet[0]]
            gain = gain_by_empty(sheet, wanting)
            self.assertEqual(gain, most_any(opened((rows, sheet[1]), "zz")) - most_any(sheet))
            self.assertTrue(0 <= gain <= cap_by_empty(sheet, prices, wanting))
            self.assertEqual(gain_by_empty(sheet, households(sheet)), sum([*gains(sheet)][:1]))
            for empty in sheet[1]:
                self.assertEqual(loss_by_empty(sheet, empty), worth_of(sheet, empty))
                self.assertLessEqual(worth_of(sheet, empty), max(0, worth_of((sheet[0], (empty,)), empty)))


class RingsAndRows(unittest.TestCase):
    """(e)"""

    def test_prices_show_that_no_more_can(self):
        for sheet in SHEETS:
            for rows in (True, False):
                plan = any_plan(sheet, rows=rows)
                self.assertTrue(is_plan(sheet, plan) and (rows or plan.ends == ()))
                self.assertEqual(len(plan), most_any(sheet, rows=rows))
            prices = prices_of(sheet)
            self.assertEqual((are_prices(sheet, prices), prices.total), (True, most_any(sheet)))
            bare = sheet[0], ()
            self.assertEqual(prices_of(bare).total, most_any(sheet, rows=False))

    def test_with_the_fewest_further_homes_all_move(self):
        for sheet in SHEETS:
            found = list(gains(sheet))
            self.assertEqual((len(found), sum(found)), (fewest_extras(sheet), len(households(sheet)) - most_any(sheet)))
            self.assertEqual(found, sorted(found, reverse=True))
            self.assertTrue(all(found))
            some = crowd(sheet)
            wanted = {home for name in some for home in wants_of(sheet, name)}
            self.assertEqual(len(some) - len(wanted), fewest_extras(sheet))
            self.assertEqual(move_together(sheet, households(sheet)), found == [])

    def test_sure_and_maybe(self):
        for sheet in SHEETS:
            plan = any_plan(sheet)
            sure, maybe, taken, able = surely_moves(sheet), may_move(sheet), surely_take(sheet), may_take(sheet)
            self.assertTrue(set(sure) <= set(plan.movers) <= set(maybe))
            self.assertTrue(set(taken) <= {(name, plan(name)) for name in plan.movers} <= set(able))
            self.assertTrue(sorted(taken) == taken and sorted(able) == able)
            self.assertEqual(maybe, tuple(sorted({name for name, _ in able})))
            self.assertLessEqual({name for name, _ in taken}, set(sure))

    def test_together(self):
        chance = random.Random(56)
        for sheet in SHEETS:
            order = shuffled(chance, households(sheet))
            found = kept_any(sheet, order)
            self.assertTrue(move_together(sheet, found) and why_stuck(sheet, found) is None)
            self.assertLessEqual(len(found), most_any(sheet))
            for name in [one for one in order if one not in found]:
                more = tuple(sorted([*found, name]))
                self.assertFalse(move_together(sheet, more))
                stuck = why_stuck(sheet, more)
                open_homes = {home for one in stuck for home in (*wants_of(sheet, one), *(() if one in more else (one,)))}
                self.assertGreater(len(stuck), len(open_homes))

    def test_fewest(self):
        for sheet in SHEETS:
            for name in households(sheet):
                part = with_part(sheet, name)
                self.assertEqual(part is None, not move_together(sheet, (name,)))
                self.assertEqual(with_fewest(sheet, name), None if part is None else len(part[0]))
                self.assertTrue(part is None or is_plan(sheet, Plan(part)))

    def test_short_rings(self):
        for sheet in SHEETS:
            counts = [most_rings(sheet, longest=longest) for longest in range(2, 10)]
            self.assertEqual(counts, sorted(counts))
            self.assertEqual((counts[0], counts[-1]), (most_swaps(sheet), most_any(sheet, rows=False)))
            self.assertEqual([len(rings_plan(sheet, longest=longest)) for longest in range(2, 10)], counts)


class Withdrawals(unittest.TestCase):
    """(f)"""

    def test_what_is_kept(self):
        for sheet in SHEETS:
            plan = any_plan(sheet)
            for many in range(10):
                gone = worst_gone(plan, many)
                self.assertEqual(len(left_of(plan, gone)), safe_for(plan, many))
                self.assertLessEqual(len(gone), many)
            for name in plan.movers:
                left = len(left_of(plan, (name,)))
                self.assertEqual(left == safe_for(plan, 1), name in weak_ones(plan))
                self.assertGreaterEqual(left, safe_for(plan, 1))

    def test_what_is_safest(self):
        for sheet in [(rows[:5], empties[:2]) for rows, empties in SHEETS]:
            plan = any_plan(sheet)
            for many in range(5):
                best = safest(sheet, many)
                self.assertTrue(max(safe_for(plan, many), most_swaps(sheet) - 2 * many) <= best <= max(0, most_any(sheet) - many))

    def test_what_is_repaired(self):
        chance = random.Random(57)
        for sheet in SHEETS:
            plan = any_plan(sheet)
            for gone in ((), drawn(chance, households(sheet)), drawn(chance, households(sheet)), households(sheet)):
                found, many = repair(sheet, plan, gone=gone), most_repaired(sheet, plan, gone=gone)
                self.assertTrue(is_plan(sheet, found) and not set(found.movers) & set(gone))
                self.assertEqual(len(found), many)
                self.assertTrue(len(left_of(plan, gone)) <= many <= most_any(without(sheet, gone)))
                rest = rest_sheet(sheet, plan, gone=gone)
                self.assertTrue(are_prices(rest, prices_of(rest)))
                whole = len(households(sheet)) - len(gone) - len(households(rest))
                self.assertEqual(many, whole + prices_of(rest).total)

    def test_who_is_told(self):
        chance = random.Random(58)
        for sheet in SHEETS:
            plan = any_plan(sheet)
            for gone in ((), drawn(chance, households(sheet)), households(sheet)):
                found, told = calmest(sheet, plan, gone=gone), fewest_told(sheet, plan, gone=gone)
                self.assertTrue(is_plan(sheet, found) and not set(found.movers) & set(gone))
                self.assertEqual(len(found), most_any(without(sheet, gone)))
                others = [name for name in households(sheet) if name not in gone]
                self.assertEqual(told, len([name for name in others if (found(name) or name) != (plan(name) or name)]))
                prices = told_prices(sheet, plan, gone=gone)
                self.assertIs(are_told_prices(sheet, plan, prices, gone=gone), True)
                total = sum(number for pairs in prices for _, number in pairs)
                self.assertEqual(total, (len(others) + 1) * len(found) + len(others) - told)
            self.assertEqual((fewest_told(sheet, plan, gone=()), calmest(sheet, plan, gone=())), (0, plan))


if __name__ == "__main__":
    unittest.main()
