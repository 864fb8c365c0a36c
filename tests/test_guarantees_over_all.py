"""What [1] promises over the whole, (g) and (h), and between all files, on drawn SHEETs to the bounds of [3]."""

import random
import unittest

from crosshomes.changes import loss_by_empty, loss_by_household
from crosshomes.data import households, suits, without
from crosshomes.days import (
    Calendar, apart, are_apart, are_daily_swaps, best_day, daily_swaps, day_by_day, days_for, earliest_end, fewest_days,
    latest_start, meeting_sheet, most_between,
)
from crosshomes.desk import answers
from crosshomes.errors import Stopped
from crosshomes.exchange import Exchange
from crosshomes.orders import Order, kept
from crosshomes.plans import Plan, is_plan, left_of
from crosshomes.rings import may_move, may_take, most_any, most_rings, surely_moves, surely_take
from crosshomes.swaps import every_swaps, is_barrier, kinds, least_swaps, most_swaps, suiting
from crosshomes.texts import plan_in, sheet_in, sheet_text
from crosshomes.withdrawals import most_repaired, repair, safe_for, worst_gone
from tests.helper import CROWD, LONELY, NOBODY, SIX, drawn_stays, random_sheets, shuffled

SHEETS = [NOBODY, SIX, LONELY, CROWD, *random_sheets(101, 80, 8)]
SIX_ALL = (tuple((name, tuple(home for home in "abcdefxy" if home != name)) for name in "abcdef"), ("x", "y"))
SMALLER = [NOBODY, SIX, LONELY, SIX_ALL, *[(rows, empties[:2]) for rows, empties in random_sheets(102, 80, 6)]]
BOUNDS = (2, 3, None)


def drawn(chance, names):
    return tuple(name for name in names if chance.random() < 0.4)


class Days(unittest.TestCase):
    """(g)"""

    def each(self, seed):
        chance = random.Random(seed)
        for sheet in SHEETS:
            for last in (4, 40):
                yield chance, sheet, Calendar(drawn_stays(chance, households(sheet), last))

    def test_the_most_over_all_days(self):
        for _, sheet, calendar in self.each(1):
            met = meeting_sheet(sheet, calendar)
            most = most_between(sheet, calendar)
            found = daily_swaps(sheet, calendar)
            self.assertEqual((most, 2 * len(found)), (most_swaps(met), most_swaps(met)))
            self.assertTrue(most <= most_swaps(sheet) and is_barrier(met, kinds(met)[1]))
            self.assertIs(are_daily_swaps(sheet, calendar, found), True)
            for day, one, other in found:
                self.assertTrue(suits(sheet, one, other) and {one, other} <= set(calendar(day)))
            # Other best SWAPS of those who meet, on their last days.
            for swaps in list(every_swaps(met))[:3]:
                later = tuple(sorted((calendar.meet(one, other)[1], one, other) for one, other in swaps))
                self.assertIs(are_daily_swaps(sheet, calendar, later), True)

    def test_start_and_end(self):
        for _, sheet, calendar in self.each(2):
            most = most_between(sheet, calendar)
            start, end = latest_start(sheet, calendar), earliest_end(sheet, calendar)
            if most == 0:
                self.assertEqual((start, end), (None, None))
                continue
            self.assertEqual(
                (most_between(sheet, calendar, first=start), most_between(sheet, calendar, last=end)), (most, most),
            )
            self.assertLess(most_between(sheet, calendar, first=start + 1), most)
            if end > 0:
                self.assertLess(most_between(sheet, calendar, last=end - 1), most)
            stays = [stay for stay in calendar.stays if stay[0] in households(sheet)]
            self.assertTrue(start in [go for _, _, go in stays] and end in [come for _, come, _ in stays])

    def test_some_days_alone(self):
        for chance, sheet, calendar in self.each(3):
            first, last = sorted((chance.randint(0, 40), chance.randint(0, 40)))
            cut = calendar & Calendar.always(sheet, first, last)
            self.assertEqual(meeting_sheet(sheet, calendar, first=first, last=last), meeting_sheet(sheet, cut))
            self.assertEqual(most_between(sheet, calendar, first=first, last=last), most_between(sheet, cut))

    def test_day_by_day(self):
        for chance, sheet, calendar in self.each(4):
            order = shuffled(chance, households(sheet))
            found = day_by_day(sheet, calendar, order)
            movers = [name for _, some in found for name in some]
            self.assertEqual(len(set(movers)), len(movers))
            self.assertTrue(most_between(sheet, calendar) <= 2 * len(movers) <= 2 * most_between(sheet, calendar))
            self.assertEqual([day for day, _ in found], sorted({day for day, _ in found}))
            for day, some in found:
                self.assertTrue(some and set(some) <= set(calendar(day)))
            self.assertEqual(day_by_day(sheet, calendar, Order(order)), found)

    def test_the_fewest_days(self):
        for _, sheet, calendar in self.each(5):
            days, pairs = days_for(sheet, calendar), apart(sheet, calendar)
            self.assertEqual((len(days), len(pairs)), (fewest_days(sheet, calendar),) * 2)
            self.assertIs(are_apart(sheet, calendar, pairs), True)
            for one, other in suiting(meeting_sheet(sheet, calendar)):
                self.assertTrue(any({one, other} <= set(calendar(day)) for day in days))
            for at, pair in enumerate(pairs):
                self.assertFalse(any({*pair, *other} <= set(calendar(day)) for other in pairs[:at] for day in range(41)))

    def test_everybody_is_always_there(self):
        chance = random.Random(6)
        for sheet in SHEETS:
            order = shuffled(chance, households(sheet))
            for come, go in ((0, 40), (0, 0), (40, 40), (3, 9)):
                calendar = Calendar.always(sheet, come, go)
                most, pairs = most_swaps(sheet), suiting(sheet)
                self.assertEqual(
                    (meeting_sheet(sheet, calendar), most_between(sheet, calendar)),
                    (meeting_sheet(sheet, calendar, last=go), most),
                )
                self.assertEqual(suiting(meeting_sheet(sheet, calendar)), pairs)
                self.assertEqual(
                    (latest_start(sheet, calendar), earliest_end(sheet, calendar)),
                    (go, come) if most else (None, None),
                )
                self.assertEqual((days_for(sheet, calendar), fewest_days(sheet, calendar)), ((go,), 1) if pairs else ((), 0))
                self.assertEqual(day_by_day(sheet, calendar, order), [(come, kept(sheet, order))] if most else [])
                self.assertEqual(best_day(sheet, calendar), (most_any(sheet), come) if households(sheet) else None)

    def test_all_so_many_days_later(self):
        for chance, sheet, calendar in self.each(7):
            many = chance.randint(0, 9)
            order = shuffled(chance, households(sheet))
            later = calendar + many
            self.assertEqual(meeting_sheet(sheet, later), meeting_sheet(sheet, calendar))
            self.assertEqual(days_for(sheet, later), tuple(day + many for day in days_for(sheet, calendar)))
            self.assertEqual(
                day_by_day(sheet, later, order),
                [(day + many, some) for day, some in day_by_day(sheet, calendar, order)],
            )
            best = best_day(sheet, calendar)
            self.assertEqual(best_day(sheet, later), best if best is None else (best[0], best[1] + many))
            self.assertEqual(len(calendar), len(later))

    def test_the_best_day(self):
        for _, sheet, calendar in self.each(8):
            best = best_day(sheet, calendar)
            counts = []
            for day in range(42):
                absent = tuple(name for name in households(sheet) if name not in calendar(day))
                if len(absent) < len(households(sheet)):
                    counts.append((-most_any(without(sheet, absent)), day))
            self.assertEqual(best, (-min(counts)[0], min(counts)[1]) if counts else None)


class Exchanges(unittest.TestCase):
    """(h)"""

    def drawn_deed(self, chance, exchange):
        names = (*exchange.order, "zoe", "yan")
        name = chance.choice(names)
        wishing = name if len(exchange) < 6 or name in exchange else exchange.order[0]
        return chance.choice((
            ("want", wishing, drawn(chance, sorted({"mm", "zz", *names} - {wishing}))),
            ("leave", name),
            ("offer" if len(exchange.sheet[1]) < 2 else "close", chance.choice(("mm", "zz", *exchange.sheet[1]))),
            ("bound", chance.choice((2, 3, None, 5))),
            ("order", chance.choice((shuffled(chance, exchange.order), exchange.order[1:]))),
            ("run", drawn(chance, names)), ("run", ()),
        ))

    def check_as_new(self, exchange):
        new = Exchange(exchange.sheet, bound=exchange.bound)
        new.order = exchange.order
        self.assertEqual(
            (new.plan(), new.sheet, new.order, new.bound, len(new)),
            (exchange.plan(), exchange.sheet, exchange.order, exchange.bound, len(exchange)),
        )
        twin = exchange.twin()
        self.assertEqual((new.run(), new.sheet, new.order), (twin.run(), twin.sheet, twin.order))
        self.assertEqual((twin.undo(), twin == exchange), (True, True))

    def test_as_a_new_one_after_any_deeds(self):
        chance = random.Random(11)
        stopped = 0
        for sheet in SMALLER:
            exchange = Exchange(sheet, bound=chance.choice(BOUNDS))
            states = [exchange.twin()]
            for _ in range(12):
                deeds = tuple(self.drawn_deed(chance, exchange) for _ in range(chance.choice((1, 1, 1, 2, 0))))
                before = exchange.twin()
                try:
                    told = exchange.attempt(deeds)
                    self.assertEqual(len(told), len(deeds))
                    states.append(exchange.twin())
                except Stopped as stop:
                    stopped += 1
                    self.assertTrue(exchange == before)
                    self.assertLess(stop.number, len(deeds))
                if chance.random() < 0.3:
                    self.assertIs(exchange.undo(), len(states) > 1)
                    states = states[:-1] or states
                self.assertTrue(exchange == states[-1])
                self.check_as_new(exchange)
            for state in states[-2::-1]:
                self.assertIs(exchange.undo(), True)
                self.assertTrue(exchange == state)
            self.assertIs(exchange.undo(), False)
        self.assertGreater(stopped, 100)

    def test_swaps_follow_the_order(self):
        chance = random.Random(12)
        for sheet in SHEETS:
            exchange = Exchange(sheet)
            exchange.order = shuffled(chance, exchange.order)
            plan = exchange.plan()
            self.assertEqual((plan.movers, len(plan)), (kept(sheet, exchange.order), most_swaps(sheet)))
            swaps = tuple(names for names, _ in plan.parts)
            self.assertIn(swaps, list(every_swaps(sheet)))
            chosen = [one for one in every_swaps(sheet) if Plan.of([(pair, "") for pair in one]).movers == plan.movers]
            self.assertEqual(swaps, chosen[0])

    def test_it_is_the_least_of_the_best_swaps_if_all_move(self):
        for sheet in SHEETS:
            if most_swaps(sheet) == len(households(sheet)):
                self.assertEqual(tuple(names for names, _ in Exchange(sheet).plan().parts), least_swaps(sheet))

    def test_rings_and_rows(self):
        chance = random.Random(13)
        for sheet in SMALLER:
            exchange = Exchange(sheet, bound=None)
            exchange.order = shuffled(chance, exchange.order)
            plan = exchange.plan()
            self.assertTrue(is_plan(sheet, plan))
            self.assertEqual(len(plan), most_any(sheet))
            self.assertTrue(set(surely_moves(sheet)) <= set(plan.movers) <= set(may_move(sheet)))
            taken = {(name, plan(name)) for name in plan.movers}
            self.assertTrue(set(surely_take(sheet)) <= taken <= set(may_take(sheet)))
            exchange.bound = 3
            self.assertEqual((len(exchange.plan()), exchange.plan().ends), (most_rings(sheet, longest=3), ()))
            self.assertTrue(all(len(names) <= 3 for names, _ in exchange.plan().parts))

    def test_runs(self):
        chance = random.Random(14)
        for sheet in SMALLER:
            for bound in BOUNDS:
                exchange = Exchange(sheet, bound=bound)
                plan, gone = exchange.plan(), drawn(chance, households(sheet))
                done = exchange.run(gone=gone)
                self.assertEqual((done, exchange.plans), (left_of(plan, gone), (done,)))
                self.assertTrue(done.within(plan) and (plan & done) == done and (plan | done) == plan)
                self.assertEqual(exchange.sheet[0], without(sheet, done.movers)[0])
                self.assertEqual(len(exchange.sheet[1]), len(sheet[1]))
                self.assertTrue(safe_for(plan, len(gone)) <= len(done) <= most_repaired(sheet, plan, gone=gone))
                self.assertTrue(len(done) <= len(repair(sheet, plan, gone=gone)))
                worst = Exchange(sheet, bound=bound).run(gone=worst_gone(plan, 2))
                self.assertEqual(len(worst), safe_for(plan, 2))
                # Whoever moves leaves, so that after enough runs nobody moves any more.
                while exchange.run():
                    pass
                self.assertEqual(exchange.plan(), Plan())
                if bound == 2:
                    self.assertEqual(most_swaps(exchange.sheet), 0)

    def test_one_household_or_home_less(self):
        for sheet in SMALLER:
            for name in households(sheet):
                exchange = Exchange(sheet)
                exchange.leave(name)
                self.assertEqual(len(exchange.plan()), most_swaps(sheet) - loss_by_household(sheet, name))
            for home in sheet[1]:
                exchange = Exchange(sheet, bound=None)
                exchange.close(home)
                self.assertEqual(len(exchange.plan()), most_any(sheet) - loss_by_empty(sheet, home))


class Texts(unittest.TestCase):
    def test_what_is_told_is_read(self):
        chance = random.Random(15)
        for sheet in SMALLER:
            for bound in BOUNDS:
                exchange = Exchange(sheet, bound=bound)
                exchange.run(gone=drawn(chance, households(sheet)))
                self.assertEqual(sheet_in(sheet_text(exchange.sheet)), exchange.sheet)
                self.assertEqual(
                    [plan_in(plan.text) for plan in (*exchange.plans, exchange.plan())],
                    [*exchange.plans, exchange.plan()],
                )

    def test_a_desk_is_an_exchange(self):
        chance = random.Random(16)
        for sheet in SMALLER:
            exchange = Exchange(sheet)
            gone = drawn(chance, households(sheet))
            line = shuffled(chance, households(sheet))
            text = sheet_text(sheet)
            requests = [
                "order " + " ".join(line) if line else "order", "bound any", "plan",
                f"run without {','.join(gone) or '-'}", "undo", "most", "homes", "who",
            ]
            told = answers("\n".join([*([text] if text else []), "", *requests]))
            exchange.order = line
            exchange.bound = None
            plan = exchange.plan()
            homes = ",".join(sorted([*households(sheet), *sheet[1]])) or "-"
            self.assertEqual(
                told,
                ["done", "done", plan.text, exchange.run(gone=gone).text, "yes", str(most_swaps(sheet)), homes,
                 ",".join(plan.movers) or "-"],
            )


if __name__ == "__main__":
    unittest.main()
