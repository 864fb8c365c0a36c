"""Days beside a plain trying of all swaps on all days, all sets of days and each order; promise [11]."""

import itertools
import random
import unittest

from crosshomes.data import households
from crosshomes.days import (
    Calendar, apart, are_apart, are_daily_swaps, best_day, daily_swaps, day_by_day, days_for, earliest_end, fewest_days,
    latest_start, meeting_sheet, most_between,
)
from crosshomes.orders import Order
from tests.helper import (
    all_graphs, days_of, drawn_stays, only, plain_kept, plain_met, plain_plans, plain_swaps, random_sheets, shuffled,
    subsets,
)


def cases(seed, count, most, last):
    """SHEETs, each with drawn STAYs from day 0 to last."""
    chance = random.Random(seed)
    return [(sheet, drawn_stays(chance, households(sheet), last)) for sheet in random_sheets(seed, count, most)]


def all_daily(met):
    """All ways to do swaps on days on which both are there, nobody twice, as ascending tuples."""
    found = []
    for pairs in subsets(sorted(met)):
        if len({name for pair in pairs for name in pair}) == 2 * len(pairs):
            for chosen in itertools.product(*[sorted(met[pair]) for pair in pairs]):
                found.append(tuple(sorted((day, *pair) for day, pair in zip(chosen, pairs))))
    return found


def plain_most(met, first, last):
    """How many can move on the days from first to last."""
    able = [pair for pair, days in met.items() if any(first <= day <= last for day in days)]
    sets = [{name for pair in pairs for name in pair} for pairs in subsets(able)]
    together = [movers for movers, pairs in zip(sets, subsets(able)) if len(movers) == 2 * len(pairs)]
    return max(len(movers) for movers in together)


class AllDays(unittest.TestCase):
    LAST = 7

    def check_calendar(self, sheet, stays):
        calendar = Calendar(stays)
        names = [name for name, _, _ in stays]
        for day in range(self.LAST + 2):
            there = tuple(name for name in names if day in days_of(stays, name))
            self.assertEqual(calendar(day), there)
            self.assertEqual(calendar(day, there[::2]), there[1::2])
        for one, other in itertools.product(names, repeat=2):
            both = days_of(stays, one) & days_of(stays, other)
            self.assertEqual(calendar.meet(one, other), (min(both), max(both)) if both else None)
        self.assertEqual(calendar.days, tuple(sorted({day for _, come, go in stays for day in (come, go)})))

    def check_between(self, sheet, stays, met):
        calendar, names = Calendar(stays), households(sheet)
        counts = {}
        for first, last in itertools.product(range(self.LAST + 2), repeat=2):
            able = [pair for pair, days in met.items() if any(first <= day <= last for day in days)]
            wants = tuple((name, tuple(other for other in names if tuple(sorted((name, other))) in able)) for name in names)
            counts[first, last] = plain_most(met, first, last)
            self.assertEqual(meeting_sheet(sheet, calendar, first=first, last=last), (wants, ()))
            self.assertEqual(most_between(sheet, calendar, first=first, last=last), counts[first, last])
        far = self.LAST + 1
        most = counts[0, far]
        for first in range(far + 1):
            self.assertEqual(meeting_sheet(sheet, calendar, first=first), meeting_sheet(sheet, calendar, first=first, last=far))
            self.assertEqual(most_between(sheet, calendar, first=first), counts[first, far])
        self.assertEqual(most_between(sheet, calendar), most)
        start = max(first for first in range(far + 1) if counts[first, far] == most)
        end = min(last for last in range(far + 1) if counts[0, last] == most)
        self.assertEqual((latest_start(sheet, calendar), earliest_end(sheet, calendar)), (start, end) if most else (None, None))
        if most:
            self.assertTrue(start in [go for _, _, go in stays] and end in [come for _, come, _ in stays])

    def check_day_by_day(self, sheet, stays, order):
        found, waiting = [], list(order)
        for day in range(self.LAST + 2):
            here = [name for name in waiting if day in days_of(stays, name)]
            moving = plain_kept(plain_swaps(only(sheet, here)), here)
            if moving:
                found.append((day, moving))
            waiting = [name for name in waiting if name not in moving]
        self.assertEqual(day_by_day(sheet, Calendar(stays), order), found)
        self.assertEqual(day_by_day(sheet, Calendar(stays), Order(order)), found)

    def check_fewest(self, sheet, stays, met):
        calendar = Calendar(stays)
        for chosen in subsets(range(self.LAST + 1)):
            if all(any(day in chosen for day in days) for days in met.values()):
                fewest = len(chosen)
                break
        able = [
            chosen for chosen in itertools.combinations(range(self.LAST + 1), fewest)
            if all(any(day in chosen for day in days) for days in met.values())
        ]
        self.assertEqual((fewest_days(sheet, calendar), days_for(sheet, calendar)), (fewest, max(able)))
        reason = apart(sheet, calendar)
        self.assertTrue(self.is_apart(met, fewest, reason))
        self.assertIs(are_apart(sheet, calendar, reason), True)
        for pairs in subsets(sorted(met)):
            for thing in {pairs, pairs[::-1]}:
                self.assertIs(are_apart(sheet, calendar, thing), self.is_apart(met, fewest, thing))

    def is_apart(self, met, fewest, thing):
        right = len(thing) == fewest and list(thing) == sorted(set(thing)) and all(pair in met for pair in thing)
        return right and not any(met[one] & met[other] for one, other in itertools.combinations(thing, 2))

    def check_best_day(self, sheet, stays):
        best = []
        for day in range(self.LAST + 2):
            here = [name for name in households(sheet) if day in days_of(stays, name)]
            if here:
                best.append((-max(len(moves) for moves in plain_plans(only(sheet, here))), day))
        many, day = min(best, default=(None, None))
        self.assertEqual(best_day(sheet, Calendar(stays)), (-many, day) if best else None)

    def check(self, sheet, stays, order):
        met = plain_met(sheet, stays)
        self.check_calendar(sheet, stays)
        self.check_between(sheet, stays, met)
        self.check_day_by_day(sheet, stays, order)
        self.check_fewest(sheet, stays, met)

    def test_many_sheets(self):
        chance = random.Random(61)
        for sheet, stays in cases(61, 300, 5, self.LAST):
            with self.subTest(sheet=sheet, stays=stays):
                self.check(sheet, stays, shuffled(chance, households(sheet)))
                self.check_best_day(sheet, stays)

    def test_who_suits_whom(self):
        chance = random.Random(62)
        for sheet in [one for many in range(5) for one in all_graphs(many)]:
            stays = drawn_stays(chance, households(sheet), self.LAST)
            with self.subTest(sheet=sheet, stays=stays):
                self.check(sheet, stays, shuffled(chance, households(sheet)))

    def test_all_orders(self):
        for sheet, stays in cases(63, 60, 4, 4):
            for order in itertools.permutations(households(sheet)):
                with self.subTest(sheet=sheet, stays=stays, order=order):
                    self.check_day_by_day(sheet, stays, order)

    def test_all_stays_of_three(self):
        """Everybody suits everybody; each of three has each stay from day 0 to 2."""
        sheet = (("a", ("b", "c")), ("b", ("a", "c")), ("c", ("a", "b"))), ()
        each = [(come, go) for come in range(3) for go in range(come, 3)]
        for chosen in itertools.product(each, repeat=3):
            stays = tuple((name, come, go) for name, (come, go) in zip("abc", chosen))
            with self.subTest(stays=stays):
                self.check(sheet, stays, ("c", "a", "b"))
                self.check_best_day(sheet, stays)


class AllDailySwaps(unittest.TestCase):
    def check(self, sheet, stays):
        calendar, met = Calendar(stays), plain_met(sheet, stays)
        every = all_daily(met)
        many = max(len(swaps) for swaps in every)
        best = {swaps for swaps in every if len(swaps) == many}
        self.assertIn(daily_swaps(sheet, calendar), best)
        self.assertEqual(most_between(sheet, calendar), 2 * many)
        for swaps in every:
            self.assertIs(are_daily_swaps(sheet, calendar, swaps), swaps in best)
        return best

    def test_small_sheets(self):
        chance = random.Random(64)
        for sheet, stays in cases(64, 200, 5, 4):
            with self.subTest(sheet=sheet, stays=stays):
                best = self.check(sheet, stays)
                for swaps in chance.sample(sorted(best), min(5, len(best))):
                    self.check_bent(chance, sheet, stays, swaps, best)

    def check_bent(self, chance, sheet, stays, swaps, best):
        """What comes of swaps by a change in one place."""
        names = [*households(sheet), "ghost", "zzz"]
        bent = [swaps[::-1], swaps[1:], (*swaps, *swaps[:1])]
        for at, (day, one, other) in enumerate(swaps):
            more = [
                (chance.randint(0, 5), one, other), (day, other, one), (day, one, chance.choice(names)),
                (day, chance.choice(names), other),
            ]
            bent.extend((*swaps[:at], triple, *swaps[at + 1:]) for triple in more)
        for thing in bent:
            self.assertIs(are_daily_swaps(sheet, Calendar(stays), thing), thing in best)

    def test_larger_sheets(self):
        large = [case for case in cases(65, 150, 8, 40) if len(case[0][0]) > 6 and len(plain_met(*case)) < 13]
        self.assertGreater(len(large), 15)
        for sheet, stays in large:
            met = plain_met(sheet, stays)
            with self.subTest(sheet=sheet, stays=stays):
                found = daily_swaps(sheet, Calendar(stays))
                self.assertEqual(2 * len(found), plain_most(met, 0, 40))
                self.assertTrue(all(day in met[one, other] for day, one, other in found))
                self.assertIs(are_daily_swaps(sheet, Calendar(stays), found), True)


class AllCalendars(unittest.TestCase):
    def test_in_common_and_later(self):
        chance = random.Random(66)
        for _ in range(200):
            stays, others = drawn_stays(chance, "abcde", 6), drawn_stays(chance, "abcde", 6)
            both = Calendar(stays) & Calendar(others)
            found = []
            for name in sorted({name for name, _, _ in stays}):
                days = days_of(stays, name) & days_of(others, name)
                if days:
                    found.append((name, min(days), max(days)))
            self.assertEqual(both.stays, tuple(found))
            many = chance.randint(0, 9)
            later = Calendar(stays)
            later += many
            self.assertEqual(later, Calendar(stays) + many)
            for day in range(20):
                self.assertEqual(later(day), Calendar(stays)(day - many) if day >= many else ())


if __name__ == "__main__":
    unittest.main()
