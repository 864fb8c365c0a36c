"""Swaps and Plans beside a plain trying of all possibilities; the guarantees (a) and (b) of [1]."""

import itertools
import random
import unittest

from crosshomes.data import households
from crosshomes.errors import Clash
from crosshomes.plans import Plan, is_part, is_plan, left_of
from crosshomes.swaps import (
    every_swaps, idle_swaps, is_barrier, kinds, least_swaps, leaves, most_swaps, partners, parts_in, suiting,
    sure_swaps,
)
from tests.helper import (
    CROWD, all_graphs, all_moves, plain_best, plain_pairs, plain_parts, plain_parts_of, raised, random_sheets, subsets,
)


def movers(swaps):
    return {name for pair in swaps for name in pair}


class AllSwaps(unittest.TestCase):
    def check_best(self, sheet, without):
        best = plain_best(sheet, without)
        self.assertEqual(suiting(sheet, without=without), plain_pairs(sheet, without))
        self.assertEqual(most_swaps(sheet, without=without), 2 * len(best[0]))
        self.assertEqual(least_swaps(sheet, without=without), best[0])
        self.assertEqual(list(every_swaps(sheet, without=without)), best)
        return best

    def check_kinds(self, sheet, best):
        names = households(sheet)
        pairs = plain_pairs(sheet)
        staying = tuple(name for name in names if any(name not in movers(swaps) for swaps in best))
        near = {name for pair in pairs for name in pair if set(pair) & set(staying)}
        hold = tuple(name for name in names if name in near and name not in staying)
        settled = tuple(name for name in names if name not in staying + hold)
        self.assertEqual(kinds(sheet), (staying, hold, settled))
        self.assertEqual(sure_swaps(sheet), [pair for pair in pairs if all(pair in swaps for swaps in best)])
        self.assertEqual(idle_swaps(sheet), [pair for pair in pairs if all(pair not in swaps for swaps in best)])
        for name in names:
            leaving = [swaps for swaps in best if name not in movers(swaps)]
            self.assertEqual(leaves(sheet, name), min(leaving) if leaving else None)
            mates = {other for swaps in best for pair in swaps if name in pair for other in pair} - {name}
            self.assertEqual(partners(sheet, name), tuple(sorted(mates)))

    def check_parts(self, sheet, best):
        names = households(sheet)
        for some in subsets(names):
            parts = plain_parts(sheet, some)
            odd = [part for part in parts if len(part) % 2]
            self.assertEqual(parts_in(sheet, some), parts)
            self.assertEqual(parts_in(sheet, some, odd=True), odd)
            self.assertEqual(parts_in(sheet, some, odd=False), [part for part in parts if part not in odd])
            others = tuple(name for name in names if name not in some)
            self.assertIs(is_barrier(sheet, others), len(odd) - len(others) == len(names) - 2 * len(best[0]))

    def check_reason(self, sheet, best):
        """What the document tells of kinds: with it, nobody needs to try all possibilities."""
        staying, hold, settled = kinds(sheet)
        parts = parts_in(sheet, staying)
        self.assertTrue(is_barrier(sheet, hold))
        self.assertTrue(all(len(part) % 2 for part in parts))
        self.assertEqual(len(households(sheet)) - most_swaps(sheet), len(parts) - len(hold))
        for swaps in best:
            mates = {name: other for pair in swaps for name, other in (pair, pair[::-1])}
            met = [part for name in hold for part in parts if mates[name] in part]
            self.assertEqual((len(met), len(set(met))), (len(hold), len(hold)))
            self.assertTrue(all(mates[name] in settled for name in settled))

    def check(self, sheet):
        best = self.check_best(sheet, ())
        self.check_kinds(sheet, best)
        self.check_parts(sheet, best)
        self.check_reason(sheet, best)

    def test_all_sheets_of_at_most_five(self):
        for many in range(6):
            for sheet in all_graphs(many):
                with self.subTest(sheet=sheet):
                    self.check(sheet)

    def test_many_sheets(self):
        for sheet in random_sheets(6, 300, 6):
            with self.subTest(sheet=sheet):
                self.check(sheet)

    def test_sheets_of_eight(self):
        large = [sheet for sheet in random_sheets(8, 60, 8) if len(sheet[0]) > 6]
        self.assertGreater(len(large), 10)
        for sheet in large:
            with self.subTest(sheet=sheet):
                self.check(sheet)

    def test_the_greatest_sheet(self):
        self.check(CROWD)

    def test_without(self):
        for sheet in random_sheets(7, 60, 6):
            for without in subsets(households(sheet)):
                with self.subTest(sheet=sheet, without=without):
                    self.check_best(sheet, without)


class PlainPlan:
    """A Plan as a dict of moves, with the words of the document and nothing else."""

    def __init__(self, moves):
        self.moves = moves
        self.ends = {home for home in moves.values() if home not in moves}
        self.plan = Plan.of(plain_parts_of(moves))

    def within(self, other):
        same = all(other.moves.get(name) == home for name, home in self.moves.items())
        return same and not any(end in other.moves for end in self.ends)


def plain_clashes(one, other):
    """The names that the document tells of for |."""
    names = {*one.moves, *one.moves.values(), *other.moves, *other.moves.values()}
    found = []
    for name in names:
        homes = {plan.moves[name] for plan in (one, other) if name in plan.moves}
        takers = {who for plan in (one, other) for who, home in plan.moves.items() if home == name}
        moved_end = (name in one.ends and name in other.moves) or (name in other.ends and name in one.moves)
        if len(homes) > 1 or len(takers) > 1 or moved_end:
            found.append(name)
    return sorted(found)


class AllPlans(unittest.TestCase):
    def setUp(self):
        self.four = [PlainPlan(moves) for moves in all_moves("abcd")]
        self.five = [PlainPlan(moves) for moves in all_moves("abcde")]

    def test_each_choice_of_moves_is_one_plan(self):
        for plain in self.five:
            plan = plain.plan
            self.assertEqual({name: plan(name) for name in plan.movers}, plain.moves)
            self.assertEqual((plan.ends, len(plan)), (tuple(sorted(plain.ends)), len(plain.moves)))
            self.assertEqual(plan.left, tuple(sorted(set(plain.moves) - set(plain.moves.values()))))
            self.assertTrue(all(is_part(part) for part in plan.parts))
            self.assertEqual(list(plan.parts), sorted(plan.parts))
        self.assertEqual(len({plain.plan.parts for plain in self.five}), len(self.five))
        self.assertEqual(len({plain.plan.text for plain in self.five}), len(self.five))

    def test_within(self):
        for one, other in itertools.product(self.four, repeat=2):
            self.assertIs(one.plan.within(other.plan), one.within(other))

    def check_two(self, one, other, plans):
        """The greatest within both is within both, and all that are within both are within it; | likewise."""
        below = [plain for plain in plans if plain.within(one) and plain.within(other)]
        greatest = [plain for plain in below if all(less.within(plain) for less in below)]
        self.assertEqual([plain.plan.parts for plain in greatest], [(one.plan & other.plan).parts])
        above = [plain for plain in plans if one.within(plain) and other.within(plain)]
        clashes = plain_clashes(one, other)
        self.assertEqual(bool(clashes), not above)
        if clashes:
            self.assertEqual(raised(lambda: one.plan | other.plan), (Clash, {"name": clashes[0]}))
        else:
            least = [plain for plain in above if all(plain.within(more) for more in above)]
            self.assertEqual([plain.plan.parts for plain in least], [(one.plan | other.plan).parts])

    def test_and_or_of_all_plans_of_three_names(self):
        plans = [PlainPlan(moves) for moves in all_moves("abc")]
        for one, other in itertools.product(plans, repeat=2):
            with self.subTest(one=one.moves, other=other.moves):
                self.check_two(one, other, plans)

    def test_and_or_of_many_plans_of_four_names(self):
        chance = random.Random(5)
        for _ in range(1500):
            one, other = chance.choice(self.four), chance.choice(self.four)
            with self.subTest(one=one.moves, other=other.moves):
                self.check_two(one, other, self.four)

    def test_and_or_of_plans_that_meet(self):
        """Of five names; both come of one Plan by withdrawals and a change, so that they have much in common."""
        chance = random.Random(6)
        by_parts = {plain.plan.parts: plain for plain in self.five}
        for _ in range(60):
            plan = chance.choice(self.five).plan
            less = by_parts[(plan - chance.choice("abcde")).parts]
            more = by_parts[(plan - chance.choice("abcde")).parts]
            with self.subTest(less=less.moves, more=more.moves):
                self.check_two(less, more, self.five)

    def test_add(self):
        chance = random.Random(7)
        for _ in range(3000):
            one, other = chance.choice(self.five), chance.choice(self.five)
            both = set(one.moves) | set(one.moves.values())
            both &= set(other.moves) | set(other.moves.values())
            if both:
                self.assertEqual(raised(lambda: one.plan + other.plan), (Clash, {"name": min(both)}))
            else:
                self.assertEqual((one.plan + other.plan).parts, tuple(sorted(one.plan.parts + other.plan.parts)))

    def test_what_is_left(self):
        for one in self.four:
            for name in "abcd":
                below = [plain for plain in self.four if plain.within(one) and name not in plain.moves]
                greatest = [plain for plain in below if all(less.within(plain) for less in below)]
                rest = one.plan - name
                self.assertEqual([plain.plan.parts for plain in greatest], [rest.parts])
                self.assertTrue(rest.within(one.plan))
            for gone in subsets("abcd"):
                below = [plain for plain in self.four if plain.within(one) and not set(gone) & set(plain.moves)]
                greatest = [plain for plain in below if all(less.within(plain) for less in below)]
                self.assertEqual([plain.plan.parts for plain in greatest], [left_of(one.plan, gone).parts])

    def test_is_plan(self):
        for sheet in random_sheets(9, 40, 3):
            wants = dict(sheet[0])
            names = sorted({*wants, *sheet[1][:1], "gone"})
            for plain in [PlainPlan(moves) for moves in all_moves(names)]:
                wanted = all(name in wants and home in wants[name] for name, home in plain.moves.items())
                right = wanted and all(end in sheet[1] for end in plain.ends)
                self.assertIs(is_plan(sheet, plain.plan), right)


if __name__ == "__main__":
    unittest.main()
