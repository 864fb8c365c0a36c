"""Withdrawals beside a plain trying of all who withdraw and of all ways to give homes: promise [10]."""

import itertools
import random
import unittest

from crosshomes.data import homes, households, is_sheet, wants_of, without
from crosshomes.plans import Plan, is_plan, left_of
from crosshomes.rings import most_any
from crosshomes.swaps import most_swaps
from crosshomes.withdrawals import (
    are_told_prices, calmest, fewest_told, most_repaired, repair, rest_sheet, safe_for, safest, safest_plan, told_prices,
    weak_ones, worst_gone,
)
from tests.helper import (
    CROWD, all_moves, lists, moves_of, plain_homes, plain_left, plain_parts_of, plain_plans, random_sheets, subsets,
)


def plan_of(moves):
    return Plan.of(plain_parts_of(moves))


def left_by(moves):
    """How many still move, by the set of those who withdraw, least sets first."""
    return {gone: len(plain_left(moves, gone)) for gone in subsets(sorted(moves))}


def plain_safe(left, many):
    return min(count for gone, count in left.items() if len(gone) <= many)


def old_homes(names, moves):
    return {name: moves.get(name, name) for name in names}


class AllWithdrawals(unittest.TestCase):
    def check(self, moves):
        plan = plan_of(moves)
        left = left_by(moves)
        for gone in left:
            self.assertEqual(moves_of(left_of(plan, gone)), plain_left(moves, gone))
        for many in range(len(moves) + 2):
            safe = plain_safe(left, many)
            self.assertEqual(safe_for(plan, many), safe)
            worst = [gone for gone, count in left.items() if len(gone) <= many and count == safe]
            self.assertEqual(worst_gone(plan, many), min(worst, key=lambda gone: (len(gone), gone)))
        alone = {gone[0] for gone, count in left.items() if len(gone) == 1 and count == plain_safe(left, 1)}
        self.assertEqual(weak_ones(plan), tuple(sorted(alone)))

    def test_all_plans_of_five_names(self):
        for moves in all_moves("abcde"):
            with self.subTest(moves=moves):
                self.check(moves)

    def test_plans_of_eight(self):
        chance = random.Random(41)
        for _ in range(60):
            names = "abcdefgh"
            places = chance.sample("abcdefghxyz", 8)
            moves = {name: home for name, home in zip(names, places) if name != home}
            # A home of somebody who stays is not free.
            moves = plain_left({**{name: name for name in names}, **moves}, [name for name in names if name not in moves])
            with self.subTest(moves=moves):
                self.check(moves)

    def test_safest(self):
        for rows, empties in random_sheets(42, 120, 4):
            sheet = rows, empties[:2]
            with self.subTest(sheet=sheet):
                counts = [left_by(moves) for moves in plain_plans(sheet)]
                for many in range(len(rows) + 2):
                    self.check_safest(sheet, many, max(plain_safe(left, many) for left in counts))

    def check_safest(self, sheet, many, best):
        plan = safest_plan(sheet, many)
        self.assertEqual((safest(sheet, many), safe_for(plan, many)), (best, best))
        self.assertTrue(is_plan(sheet, plan))
        self.assertGreaterEqual(best, most_swaps(sheet) - 2 * many)
        self.assertLessEqual(best, max(0, most_any(sheet) - many))

    def test_safest_of_five_and_two(self):
        large = [(rows, empties[:2]) for rows, empties in random_sheets(43, 100, 5) if len(rows) == 5]
        self.assertGreater(len(large), 10)
        names = "abcde"
        crowd = tuple((name, tuple(home for home in "abcdexy" if home != name)) for name in names), ("x", "y")
        for sheet in (*large, crowd):
            sizes = [[len(names) for names, _ in plain_parts_of(moves)] for moves in plain_plans(sheet)]
            for many in range(7):
                best = max(sum(sorted(counts, reverse=True)[many:]) for counts in sizes)
                with self.subTest(sheet=sheet, many=many):
                    self.check_safest(sheet, many, best)


class AllRepairs(unittest.TestCase):
    def cases(self, seed, count, most, each):
        """SHEETs with all or some of their PLANs, and all sets who are gone."""
        chance = random.Random(seed)
        for sheet in random_sheets(seed, count, most):
            plans = plain_plans(sheet)
            for moves in chance.sample(plans, min(each, len(plans))):
                for gone in subsets(households(sheet)):
                    yield sheet, plans, moves, gone

    def check_rest(self, sheet, moves, gone):
        plan = plan_of(moves)
        whole = [(names, end) for names, end in plain_parts_of(moves) if not set(names) & set(gone)]
        settled = {name for names, _ in whole for name in names}
        rest = rest_sheet(sheet, plan, gone=gone)
        self.assertTrue(is_sheet(rest))
        self.assertEqual(households(rest), tuple(name for name in households(sheet) if name not in settled and name not in gone))
        taken, left = {end for _, end in whole}, {names[0] for names, end in whole if end}
        self.assertEqual(rest[1], tuple(sorted((set(sheet[1]) - taken) | left)))
        for name in households(rest):
            self.assertEqual(wants_of(rest, name), tuple(home for home in wants_of(sheet, name) if home in homes(rest)))
            self.assertEqual(wants_of(rest, name, idle=True), wants_of(rest, name))
        return settled, rest

    def check_repair(self, sheet, plans, moves, gone):
        plan = plan_of(moves)
        settled, rest = self.check_rest(sheet, moves, gone)
        right = [one for one in plans if not set(one) & set(gone) and all(one.get(name) == moves[name] for name in settled)]
        best = max(len(one) for one in right)
        self.assertEqual(most_repaired(sheet, plan, gone=gone), best)
        self.assertEqual(best, len(settled) + most_any(rest))
        self.assertLessEqual(len(plain_left(moves, gone)), best)
        self.assertLessEqual(best, most_any(without(sheet, gone)))
        found = moves_of(repair(sheet, plan, gone=gone))
        self.assertIn(found, right)
        self.assertEqual(len(found), best)

    def check_told(self, sheet, plans, moves, gone):
        plan = plan_of(moves)
        others = [name for name in households(sheet) if name not in gone]
        old = old_homes(others, moves)
        able = [one for one in plans if not set(one) & set(gone)]
        best = max(len(one) for one in able)
        told = {at: sum(one.get(name, name) != old[name] for name in others) for at, one in enumerate(able) if len(one) == best}
        fewest = min(told.values())
        self.assertEqual(fewest_told(sheet, plan, gone=gone), fewest)
        found = moves_of(calmest(sheet, plan, gone=gone))
        self.assertIn(found, [able[at] for at in told if told[at] == fewest])
        prices = told_prices(sheet, plan, gone=gone)
        self.assertTrue(self.plain_are_told(sheet, old, gone, prices))
        self.assertIs(are_told_prices(sheet, plan, prices, gone=gone), True)
        total = sum(number for pairs in prices for _, number in pairs)
        self.assertEqual(total, (len(others) + 1) * best + len(others) - fewest)

    def plain_are_told(self, sheet, old, gone, pair):
        """Whether this pair of tuples of pairs with numbers is TOLD PRICES, by the words of the document."""
        by_household, by_home = dict(pair[0]), dict(pair[1])
        names, there = sorted(old), sorted(set(homes(sheet)) - set(gone))
        if [name for name, _ in pair[0]] != names or [home for home, _ in pair[1]] != there or min([0, *by_home.values()]) < 0:
            return False
        choices = plain_homes(sheet)
        for name in names:
            for home in set(choices[name]) & set(there):
                bound = (0 if home == name else len(names) + 1) + (1 if home == old[name] else 0)
                if by_household[name] + by_home[home] < bound:
                    return False
        return True

    def test_all_who_are_gone(self):
        for sheet, plans, moves, gone in self.cases(44, 50, 4, 6):
            with self.subTest(sheet=sheet, moves=moves, gone=gone):
                self.check_repair(sheet, plans, moves, gone)
                self.check_told(sheet, plans, moves, gone)

    def test_sheets_of_five(self):
        for sheet, plans, moves, gone in self.cases(45, 10, 5, 2):
            if len(sheet[0]) == 5:
                with self.subTest(sheet=sheet, moves=moves, gone=gone):
                    self.check_repair(sheet, plans, moves, gone)
                    self.check_told(sheet, plans, moves, gone)

    def test_drawn_told_prices(self):
        chance = random.Random(46)
        held = asked = 0
        for sheet, plans, moves, gone in self.cases(47, 40, 4, 2):
            plan = plan_of(moves)
            base = told_prices(sheet, plan, gone=gone)
            drawn = tuple(tuple((name, number + chance.choice((0, 0, 0, 1, -1))) for name, number in pairs) for pairs in base)
            old = old_homes([name for name in households(sheet) if name not in gone], moves)
            right = self.plain_are_told(sheet, old, gone, drawn)
            self.assertIs(are_told_prices(sheet, plan, drawn, gone=gone), right)
            self.assertIs(are_told_prices(sheet, plan, lists(drawn), gone=gone), False)
            held, asked = held + right, asked + 1
            if right:
                least = sum(number for pairs in base for _, number in pairs)
                self.assertGreaterEqual(sum(number for pairs in drawn for _, number in pairs), least)
        self.assertTrue(asked / 10 < held < asked * 9 / 10)

    def test_the_greatest_sheet(self):
        plan = Plan((tuple("abcdefgh"), ""))
        for gone in itertools.chain([()], itertools.combinations("abcdefgh", 1), itertools.combinations("abcdefgh", 7), [tuple("abcdefgh")]):
            many = 8 - len(gone)
            self.assertEqual(most_repaired(CROWD, plan, gone=gone), many)
            self.assertEqual(len(repair(CROWD, plan, gone=gone)), many)
            # Only who was to have the home of somebody gone is told of another one.
            self.assertEqual(fewest_told(CROWD, plan, gone=gone), min(len(gone), 1) if many else 0)
            self.assertIs(are_told_prices(CROWD, plan, told_prices(CROWD, plan, gone=gone), gone=gone), True)


if __name__ == "__main__":
    unittest.main()
