"""Days: promise [11], ordinary inputs, edges and wrong inputs."""

import unittest

from crosshomes.data import households, without
from crosshomes.days import (
    Calendar, apart, are_apart, are_daily_swaps, best_day, daily_swaps, day_by_day, days_for, earliest_end, fewest_days,
    latest_start, meeting_sheet, most_between,
)
from crosshomes.errors import BadStay, NoHousehold
from crosshomes.orders import Order
from crosshomes.plans import Plan
from crosshomes.swaps import kinds, is_barrier, most_swaps
from tests.helper import CROWD, LONELY, NOBODY, ODD_THINGS, PRICES, SIX, lists, nested, raised

EVERYBODY = ("ann", "bob", "cat", "dan", "eve", "fay")
EIGHT = tuple("abcdefgh")
STAYS = (("ann", 0, 2), ("bob", 2, 5), ("cat", 1, 4), ("dan", 4, 6), ("eve", 6, 8), ("fay", 3, 9))
# Two who suit each other, and are there on one day together; the third one comes too late.
PAIR = ((("a", ("b", "c")), ("b", ("a",)), ("c", ("a",))), ())
PAIR_STAYS = (("a", 3, 5), ("b", 5, 9), ("c", 6, 6))


def always(come=0, go=40):
    return Calendar.always(CROWD, come, go)


class AboutCalendars(unittest.TestCase):
    def test_reading(self):
        calendar = Calendar(STAYS)
        self.assertEqual([calendar[name] for name in EVERYBODY], [(0, 2), (2, 5), (1, 4), (4, 6), (6, 8), (3, 9)])
        self.assertEqual((calendar.stays, len(calendar), bool(calendar)), (STAYS, 6, True))
        self.assertEqual(("ann" in calendar, "zoe" in calendar, "" in calendar), (True, False, False))
        self.assertEqual(calendar.days, (0, 1, 2, 3, 4, 5, 6, 8, 9))
        for found in (calendar["ann"], calendar.stays, calendar.stays[0], calendar.days, calendar(2), calendar.meet("ann", "bob")):
            self.assertIs(found.__class__, tuple)
        self.assertIs(bool(calendar).__class__, bool)

    def test_without_stays(self):
        for calendar in (Calendar(()), Calendar([]), Calendar.always(NOBODY, 3, 4), Calendar(()) + 3, Calendar(STAYS) & Calendar(())):
            self.assertEqual((calendar.stays, calendar.days, len(calendar), bool(calendar)), ((), (), 0, False))
            self.assertEqual((calendar(0), calendar(40, ("ann",)), "ann" in calendar), ((), (), False))
            self.assertEqual(raised(lambda: calendar["ann"]), (NoHousehold, {"name": "ann"}))
            self.assertTrue(calendar == Calendar(()))

    def test_who_is_there(self):
        calendar = Calendar(STAYS)
        there = [
            ("ann",), ("ann", "cat"), ("ann", "bob", "cat"), ("bob", "cat", "fay"), ("bob", "cat", "dan", "fay"),
            ("bob", "dan", "fay"),
        ]
        self.assertEqual([calendar(day) for day in range(6)], there)
        self.assertEqual(
            [calendar(day) for day in range(6, 11)],
            [("dan", "eve", "fay"), ("eve", "fay"), ("eve", "fay"), ("fay",), ()],
        )
        self.assertEqual(calendar(4, ("cat",)), ("bob", "dan", "fay"))
        self.assertEqual(calendar(4, ("ann", "cat", "nobody", "zoe")), ("bob", "dan", "fay"))
        self.assertEqual(
            (calendar(4, but=["bob", "fay"]), calendar(day=4, but=()), calendar(4, EVERYBODY)),
            (("cat", "dan"), there[4], ()),
        )

    def test_first_and_last_days(self):
        calendar = Calendar((("a", 0, 0), ("b", 40, 40), ("c", 0, 40)))
        self.assertEqual([calendar(day) for day in (0, 1, 39, 40, 41)], [("a", "c"), ("c",), ("c",), ("b", "c"), ()])
        self.assertEqual(calendar.days, (0, 40))

    def test_a_new_stay(self):
        calendar = Calendar(STAYS)
        calendar["bob"] = (0, 0)
        self.assertEqual(
            (calendar["bob"], calendar(0), calendar(2), len(calendar)), ((0, 0), ("ann", "bob"), ("ann", "cat"), 6),
        )
        calendar["aaa"] = [7, 40]
        self.assertEqual(
            (calendar["aaa"], len(calendar), calendar.stays[0], calendar.days[-1]), ((7, 40), 7, ("aaa", 7, 40), 40),
        )
        self.assertIs(calendar["aaa"].__class__, tuple)
        self.assertIs(calendar.stays[0].__class__, tuple)
        self.assertIn("aaa", calendar)
        bare = Calendar(())
        bare["zoe"] = (3, 3)
        self.assertEqual((bare.stays, bool(bare)), ((("zoe", 3, 3),), True))

    def test_stays_ascend_whatever_was_set(self):
        calendar = Calendar(())
        for name in ("m", "a", "z", "k"):
            calendar[name] = (1, 2)
        self.assertEqual([name for name, _, _ in calendar.stays], ["a", "k", "m", "z"])
        self.assertEqual((calendar(1), calendar & calendar == calendar), (("a", "k", "m", "z"), True))
        self.assertEqual((calendar + 1).stays[0], ("a", 2, 3))
        self.assertTrue(calendar == Calendar((("a", 1, 2), ("k", 1, 2), ("m", 1, 2), ("z", 1, 2))))

    def test_bad_stays(self):
        self.assertEqual(raised(lambda: Calendar((("a", 1, 0),))), (BadStay, {"name": "a"}))
        self.assertEqual(raised(lambda: Calendar((("a", 0, 0), ("b", 5, 4), ("c", 9, 1)))), (BadStay, {"name": "b"}))
        self.assertEqual(raised(lambda: Calendar(stays=[["a", 0, 0], ["c", 5, 4]])), (BadStay, {"name": "c"}))
        self.assertEqual(raised(lambda: Calendar.always(SIX, 3, 2)), (BadStay, {"name": "ann"}))
        self.assertEqual(raised(lambda: Calendar.always(without(SIX, ("ann",)), 40, 0)), (BadStay, {"name": "bob"}))
        self.assertEqual(Calendar.always(NOBODY, 3, 2), Calendar(()))
        calendar = Calendar(STAYS)
        for name in ("ann", "zoe"):
            self.assertEqual(raised(lambda: calendar.__setitem__(name, (5, 4))), (BadStay, {"name": name}))
            self.assertEqual(calendar.stays, STAYS)

    def test_names_that_are_not_there(self):
        calendar = Calendar(STAYS)
        self.assertEqual(raised(lambda: calendar["zoe"]), (NoHousehold, {"name": "zoe"}))
        self.assertEqual(raised(lambda: calendar.meet("zoe", "ann")), (NoHousehold, {"name": "zoe"}))
        self.assertEqual(raised(lambda: calendar.meet("ann", "zoe")), (NoHousehold, {"name": "zoe"}))
        self.assertEqual(raised(lambda: calendar.meet(one="zoe", other="yan")), (NoHousehold, {"name": "zoe"}))

    def test_meet(self):
        calendar = Calendar(STAYS)
        self.assertEqual(
            (calendar.meet("bob", "cat"), calendar.meet("cat", "bob"), calendar.meet(other="fay", one="bob")),
            ((2, 4), (2, 4), (3, 5)),
        )
        self.assertEqual(
            (calendar.meet("ann", "bob"), calendar.meet("dan", "eve"), calendar.meet("fay", "eve")),
            ((2, 2), (6, 6), (6, 8)),
        )
        self.assertEqual(
            (calendar.meet("cat", "eve"), calendar.meet("ann", "fay"), calendar.meet("ann", "ann")),
            (None, None, (0, 2)),
        )

    def test_always(self):
        self.assertEqual(Calendar.always(SIX, 0, 40).stays, tuple((name, 0, 40) for name in EVERYBODY))
        self.assertEqual(Calendar.always(sheet=lists(SIX), come=3, go=3)(3), EVERYBODY)
        self.assertIs(Calendar.always(SIX, 0, 0).__class__, Calendar)

    def test_later(self):
        calendar = Calendar(STAYS)
        later = calendar + 3
        self.assertEqual(later.stays, tuple((name, come + 3, go + 3) for name, come, go in STAYS))
        self.assertEqual((calendar.stays, calendar + 0 == calendar, (calendar + 0) is calendar), (STAYS, True, False))
        later["ann"] = (0, 0)
        self.assertEqual((calendar["ann"], later["ann"]), ((0, 2), (0, 0)))

    def test_later_in_place(self):
        calendar = same = Calendar(STAYS)
        calendar += 4
        self.assertIs(calendar, same)
        self.assertEqual(same.stays, tuple((name, come + 4, go + 4) for name, come, go in STAYS))
        calendar += 0
        self.assertEqual((same["ann"], same(4), calendar is same), ((4, 6), ("ann",), True))
        self.assertEqual(same, Calendar(STAYS) + 4)

    def test_days_in_common(self):
        one = Calendar((("a", 0, 5), ("b", 3, 4), ("c", 1, 1), ("d", 6, 9)))
        other = Calendar((("a", 5, 8), ("b", 0, 9), ("c", 2, 3), ("e", 6, 9)))
        both = one & other
        self.assertEqual((both.stays, (other & one).stays), ((("a", 5, 5), ("b", 3, 4)),) * 2)
        self.assertEqual((one["a"], other["a"], len(one), len(other)), ((0, 5), (5, 8), 4, 4))
        self.assertEqual((one & one, (one & one) is one), (one, False))
        both["a"] = (0, 0)
        self.assertEqual((one["a"], other["a"]), ((0, 5), (5, 8)))

    def test_equal(self):
        calendar = Calendar(STAYS)
        self.assertTrue(calendar == Calendar(lists(STAYS)))
        self.assertFalse(calendar != Calendar(STAYS))
        others = (
            Calendar(STAYS[1:]), calendar + 1, Calendar((*STAYS[:5], ("fay", 3, 8))),
            Calendar((*STAYS[:5], ("gus", 3, 9))), Calendar(()),
            STAYS, (), [], None, 0, True, Plan(), PRICES, Order(EVERYBODY), SIX,
        )
        for other in others:
            with self.subTest(other=other):
                self.assertIs(calendar == other, False)
                self.assertIs(other == calendar, False)
                self.assertIs(calendar != other, True)

    def test_copies(self):
        stays = lists(STAYS)
        calendar = Calendar(stays)
        stays[0][1] = 2
        stays.pop()
        self.assertEqual(calendar.stays, STAYS)
        stay = [1, 1]
        calendar["ann"] = stay
        stay[0] = 0
        self.assertEqual(calendar["ann"], (1, 1))

    def test_what_can_be_set(self):
        calendar = Calendar(STAYS)
        for word in ("stays", "days"):
            self.assertRaises(AttributeError, setattr, calendar, word, ())


class Meeting(unittest.TestCase):
    def test_meeting_sheet(self):
        calendar = Calendar(STAYS)
        wants = {"ann": ("bob",), "bob": ("ann", "cat"), "cat": ("bob", "dan"), "dan": ("cat", "eve"), "eve": ("dan",), "fay": ()}
        self.assertEqual(meeting_sheet(SIX, calendar), (tuple(wants.items()), ()))
        self.assertEqual(meeting_sheet(SIX, Calendar(())), (tuple((name, ()) for name in EVERYBODY), ()))
        self.assertEqual(meeting_sheet(NOBODY, calendar), NOBODY)
        self.assertEqual(
            dict(meeting_sheet(SIX, calendar, first=3, last=4)[0]),
            {**{name: () for name in EVERYBODY}, "bob": ("cat",), "cat": ("bob", "dan"), "dan": ("cat",)},
        )

    def test_first_and_last(self):
        calendar = Calendar(PAIR_STAYS)
        met = (("a", ("b",)), ("b", ("a",)), ("c", ())), ()
        apart_all = (("a", ()), ("b", ()), ("c", ())), ()
        for first, last in ((0, None), (5, None), (5, 5), (0, 5), (0, 40), (4, 6)):
            with self.subTest(first=first, last=last):
                self.assertEqual(meeting_sheet(PAIR, calendar, first=first, last=last), met)
                self.assertEqual(most_between(PAIR, calendar, first=first, last=last), 2)
        for first, last in ((6, None), (0, 4), (0, 0), (6, 40), (6, 5), (5, 4), (9, 0)):
            with self.subTest(first=first, last=last):
                self.assertEqual(meeting_sheet(PAIR, calendar, first=first, last=last), apart_all)
                self.assertEqual(most_between(PAIR, calendar, first=first, last=last), 0)

    def test_first_behind_last_of_a_long_stay(self):
        for first, last in ((7, 3), (1, 0), (40, 39)):
            self.assertEqual(most_between(CROWD, always(), first=first, last=last), 0)
        self.assertEqual([most_between(CROWD, always(), first=day, last=day) for day in (0, 20, 40, 41)], [8, 8, 8, 0])
        self.assertEqual((most_between(CROWD, always(), last=0), most_between(CROWD, always(1, 40), last=0)), (8, 0))
        self.assertEqual((most_between(CROWD, always(), first=40), most_between(CROWD, always(0, 39), first=40)), (8, 0))

    def test_most_between(self):
        calendar = Calendar(STAYS)
        self.assertEqual([most_between(SIX, calendar, last=day) for day in range(8)], [0, 0, 2, 2, 4, 4, 4, 4])
        self.assertEqual([most_between(SIX, calendar, first=day) for day in range(8)], [4, 4, 4, 4, 4, 2, 2, 0])
        self.assertEqual((most_between(SIX, calendar, first=2, last=4), most_between(SIX, calendar, first=3, last=4)), (4, 2))

    def test_names_that_are_no_households(self):
        calendar = Calendar((("a", 0, 9), ("b", 0, 9), ("zoe", 0, 40)))
        sheet = (("a", ("b", "zoe")), ("b", ("a",)), ("c", ("a", "zoe"))), ()
        self.assertEqual(meeting_sheet(sheet, calendar), ((("a", ("b",)), ("b", ("a",)), ("c", ())), ()))
        self.assertEqual(
            (latest_start(sheet, calendar), earliest_end(sheet, calendar), days_for(sheet, calendar)), (9, 0, (9,)),
        )
        self.assertEqual(best_day(sheet, calendar), (2, 0))
        self.assertEqual(day_by_day(sheet, calendar, ("c", "b", "a")), [(0, ("a", "b"))])

    def test_the_reason(self):
        sheet = meeting_sheet(SIX, Calendar(STAYS))
        self.assertTrue(is_barrier(sheet, kinds(sheet)[1]))
        self.assertEqual(most_swaps(sheet), 4)


class DailySwaps(unittest.TestCase):
    def test_daily_swaps(self):
        calendar = Calendar(STAYS)
        found = daily_swaps(SIX, calendar)
        self.assertEqual((len(found), are_daily_swaps(SIX, calendar, found)), (2, True))
        self.assertEqual(daily_swaps(PAIR, Calendar(PAIR_STAYS)), ((5, "a", "b"),))
        for sheet, stays in ((NOBODY, STAYS), (LONELY, STAYS), (SIX, ()), (SIX, STAYS[:1]), (LONELY, always().stays)):
            self.assertEqual(daily_swaps(sheet, Calendar(stays)), ())
            self.assertIs(are_daily_swaps(sheet, Calendar(stays), ()), True)

    def test_they_ascend_by_days(self):
        sheet = (("a", ("b",)), ("b", ("a",)), ("c", ("d",)), ("d", ("c",))), ()
        calendar = Calendar((("a", 5, 5), ("b", 5, 5), ("c", 3, 3), ("d", 3, 3)))
        self.assertEqual(daily_swaps(sheet, calendar), ((3, "c", "d"), (5, "a", "b")))
        self.assertIs(are_daily_swaps(sheet, calendar, ((3, "c", "d"), (5, "a", "b"))), True)
        self.assertIs(are_daily_swaps(sheet, calendar, ((5, "a", "b"), (3, "c", "d"))), False)

    def test_are_daily_swaps(self):
        calendar = Calendar(STAYS)
        right = (
            ((2, "ann", "bob"), (4, "cat", "dan")), ((2, "ann", "bob"), (6, "dan", "eve")),
            ((2, "bob", "cat"), (6, "dan", "eve")), ((4, "bob", "cat"), (6, "dan", "eve")),
        )
        for thing in right:
            with self.subTest(thing=thing):
                self.assertIs(are_daily_swaps(SIX, calendar, thing), True)
                self.assertIs(are_daily_swaps(lists(SIX), calendar, thing), True)
        wrong = (
            (), ((2, "ann", "bob"),), ((2, "ann", "bob"), (3, "cat", "dan")), ((2, "ann", "bob"), (5, "cat", "dan")),
            ((1, "bob", "cat"), (6, "dan", "eve")), ((5, "bob", "cat"), (6, "dan", "eve")),
            ((4, "cat", "dan"), (2, "ann", "bob")),
            ((2, "bob", "ann"), (4, "cat", "dan")), ((2, "ann", "bob"), (4, "dan", "cat")),
            ((2, "ann", "bob"), (2, "bob", "cat")),
            ((2, "ann", "bob"), (2, "ann", "bob")), ((4, "cat", "dan"), (6, "dan", "eve")),
            ((2, "ann", "bob"), (4, "cat", "dan"), (6, "dan", "eve")),
            ((2, "ann", "bob"), (6, "cat", "eve")), ((2, "ann", "cat"), (6, "dan", "eve")),
            [(2, "ann", "bob"), (4, "cat", "dan")],
            ((2, "ann", "bob"), [4, "cat", "dan"]), ((2, "ann", "bob"), (4, "cat", "dan", "eve")),
            ((2, "ann", "bob"), ("cat", "dan")),
            ((2, "ann", "bob"), (4, ("cat", "dan"))), ((2, "ann", "bob"), (None, "cat", "dan")),
            ((2, "ann", "bob"), ("4", "cat", "dan")),
            ((2, "ann", "bob"), 4), ((2, "ann", "bob"), "abc"), ((2, "ann", "bob"), (4, "cat", "zoe")),
            ((2, "ann", "bob"), (-4, "cat", "dan")),
        )
        for thing in wrong:
            with self.subTest(thing=thing):
                self.assertIs(are_daily_swaps(SIX, calendar, thing), False)

    def test_true_is_no_day(self):
        calendar = Calendar.always(PAIR, 0, 1)
        for day, right in ((0, True), (1, True), (2, False), (True, False), (False, False), (10 ** 30, False)):
            self.assertIs(are_daily_swaps(PAIR, calendar, ((day, "a", "b"),)), right)

    def test_things_of_all_kinds(self):
        calendar = Calendar(STAYS)
        right = ((2, "ann", "bob"), (4, "cat", "dan"))
        for inner in (*ODD_THINGS, nested(12), Plan(), PRICES, (PRICES,), "ann"):
            things = (
                inner, (inner,), (inner, right[1]), (right[0], inner), ((inner, "ann", "bob"), right[1]),
                ((2, inner, "bob"), right[1]), (right[0], (4, "cat", inner)),
            )
            for thing in [one for one in things if one != right]:
                with self.subTest(thing=thing):
                    self.assertIs(are_daily_swaps(SIX, calendar, thing), False)

    def test_a_crowd(self):
        for come, go in ((0, 40), (0, 0), (40, 40)):
            found = daily_swaps(CROWD, always(come, go))
            self.assertEqual(len(found), 4)
            self.assertIs(are_daily_swaps(CROWD, always(come, go), found), True)


class StartAndEnd(unittest.TestCase):
    def test_start_and_end(self):
        calendar = Calendar(PAIR_STAYS)
        self.assertEqual((latest_start(PAIR, calendar), earliest_end(PAIR, calendar)), (5, 5))
        self.assertEqual((latest_start(PAIR, calendar + 7), earliest_end(PAIR, calendar + 7)), (12, 12))
        self.assertEqual((latest_start(CROWD, always()), earliest_end(CROWD, always())), (40, 0))
        self.assertEqual((latest_start(CROWD, always(0, 0)), earliest_end(CROWD, always(0, 0))), (0, 0))

    def test_a_go_and_a_come(self):
        sheet = (("a", ("b",)), ("b", ("a",))), ()
        calendar = Calendar((("a", 2, 7), ("b", 4, 9)))
        self.assertEqual((latest_start(sheet, calendar), earliest_end(sheet, calendar)), (7, 4))

    def test_nobody_can(self):
        for sheet, stays in ((NOBODY, STAYS), (LONELY, always().stays), (SIX, ()), (SIX, STAYS[:1]), (PAIR, (("a", 0, 1), ("b", 2, 3)))):
            self.assertEqual((latest_start(sheet, Calendar(stays)), earliest_end(sheet, Calendar(stays))), (None, None))


class DayByDay(unittest.TestCase):
    def test_nobody_waits(self):
        # b and c come first, and move at once: then a and d, who suit them alone, stay.
        sheet = (("a", ("b",)), ("b", ("a", "c")), ("c", ("b", "d")), ("d", ("c",))), ()
        calendar = Calendar((("a", 1, 5), ("b", 0, 5), ("c", 0, 5), ("d", 1, 5)))
        self.assertEqual(most_between(sheet, calendar), 4)
        self.assertEqual(day_by_day(sheet, calendar, ("a", "b", "c", "d")), [(0, ("b", "c"))])
        self.assertEqual(day_by_day(sheet, Calendar.always(sheet, 3, 9), ("a", "b", "c", "d")), [(3, ("a", "b", "c", "d"))])

    def test_the_order_decides_among_those_there(self):
        sheet = (("a", ("c",)), ("b", ("c",)), ("c", ("a", "b")), ("d", ())), ()
        calendar = Calendar.always(sheet, 7, 8)
        self.assertEqual(day_by_day(sheet, calendar, ("b", "a", "d", "c")), [(7, ("b", "c"))])
        self.assertEqual(day_by_day(sheet, calendar, ["d", "a", "b", "c"]), [(7, ("a", "c"))])
        calendar["b"] = (8, 8)
        self.assertEqual(day_by_day(sheet, calendar, Order(("b", "a", "d", "c"))), [(7, ("a", "c"))])

    def test_nobody_moves_twice(self):
        found = day_by_day(CROWD, always(), EIGHT)
        self.assertEqual(found, [(0, EIGHT)])
        calendar = Calendar(tuple((name, day, 40) for day, name in enumerate(EIGHT)))
        self.assertEqual(
            day_by_day(CROWD, calendar, EIGHT[::-1]),
            [(1, ("a", "b")), (3, ("c", "d")), (5, ("e", "f")), (7, ("g", "h"))],
        )

    def test_nobody_can(self):
        for sheet, stays in ((NOBODY, STAYS), (LONELY, always().stays), (SIX, ()), (SIX, STAYS[:1])):
            self.assertEqual(day_by_day(sheet, Calendar(stays), households(sheet)), [])

    def test_names_that_are_none(self):
        for calendar in (Calendar(STAYS), Calendar(())):
            self.assertEqual(raised(lambda: day_by_day(SIX, calendar, ("ann", "zoe", "yan"))), (NoHousehold, {"name": "zoe"}))
            self.assertEqual(
                raised(lambda: day_by_day(SIX, calendar, Order(("new", *EVERYBODY)))), (NoHousehold, {"name": "new"}),
            )
        self.assertEqual(raised(lambda: day_by_day(NOBODY, Calendar(()), ("ann",))), (NoHousehold, {"name": "ann"}))


class FewestDays(unittest.TestCase):
    def test_days_for(self):
        calendar = Calendar(STAYS)
        self.assertEqual((fewest_days(SIX, calendar), days_for(SIX, calendar)), (3, (2, 4, 6)))
        self.assertEqual((fewest_days(PAIR, Calendar(PAIR_STAYS)), days_for(PAIR, Calendar(PAIR_STAYS))), (1, (5,)))
        self.assertEqual(
            (fewest_days(CROWD, always()), days_for(CROWD, always()), days_for(CROWD, always(0, 0))), (1, (40,), (0,)),
        )

    def test_as_late_as_can_be(self):
        sheet = (("a", ("b",)), ("b", ("a",)), ("c", ("d",)), ("d", ("c",))), ()
        calendar = Calendar((("a", 0, 4), ("b", 1, 5), ("c", 4, 9), ("d", 0, 9)))
        self.assertEqual(days_for(sheet, calendar), (4,))
        calendar["c"] = (5, 9)
        self.assertEqual((days_for(sheet, calendar), apart(sheet, calendar)), ((4, 9), (("a", "b"), ("c", "d"))))

    def test_apart(self):
        calendar = Calendar(STAYS)
        found = apart(SIX, calendar)
        self.assertEqual((len(found), are_apart(SIX, calendar, found)), (3, True))
        found = apart(CROWD, always())
        self.assertEqual((len(found), are_apart(CROWD, always(), found)), (1, True))

    def test_apart_ascends(self):
        sheet = (("a", ("b",)), ("b", ("a",)), ("c", ("d",)), ("d", ("c",))), ()
        calendar = Calendar((("a", 7, 9), ("b", 7, 9), ("c", 0, 2), ("d", 0, 2)))
        self.assertEqual((apart(sheet, calendar), days_for(sheet, calendar)), ((("a", "b"), ("c", "d")), (2, 9)))
        self.assertIs(are_apart(sheet, calendar, (("c", "d"), ("a", "b"))), False)

    def test_are_apart(self):
        calendar = Calendar(STAYS)
        self.assertIs(are_apart(SIX, calendar, (("ann", "bob"), ("cat", "dan"), ("dan", "eve"))), True)
        wrong = (
            (), (("ann", "bob"), ("cat", "dan")), (("ann", "bob"), ("bob", "cat"), ("dan", "eve")),
            (("ann", "bob"), ("bob", "cat"), ("cat", "dan")),
            (("ann", "bob"), ("dan", "eve"), ("cat", "dan")), (("bob", "ann"), ("cat", "dan"), ("dan", "eve")),
            (("ann", "bob"), ("ann", "bob"), ("dan", "eve")),
            (("ann", "bob"), ("cat", "eve"), ("dan", "eve")), [("ann", "bob"), ("cat", "dan"), ("dan", "eve")],
            (["ann", "bob"], ("cat", "dan"), ("dan", "eve")),
            (("ann", "bob"), ("cat", "dan"), ("dan", "eve"), ("eve", "fay")),
            (("ann", "bob"), ("cat", "dan"), ("dan", "zoe")), ("ann", "bob"),
            (("ann", "bob"), ("bob", "cat"), ("cat", "dan"), ("dan", "eve")),
        )
        for thing in wrong:
            with self.subTest(thing=thing):
                self.assertIs(are_apart(SIX, calendar, thing), False)

    def test_they_have_just_so_many(self):
        calendar = Calendar.always(PAIR, 0, 3)
        self.assertEqual(
            [are_apart(PAIR, calendar, thing) for thing in ((("a", "b"),), (("a", "c"),), (), (("a", "b"), ("a", "c")))],
            [True, True, False, False],
        )

    def test_nobody_meets(self):
        for sheet, stays in ((NOBODY, STAYS), (LONELY, always().stays), (SIX, ()), (PAIR, (("a", 0, 1), ("b", 2, 3)))):
            calendar = Calendar(stays)
            self.assertEqual((fewest_days(sheet, calendar), days_for(sheet, calendar), apart(sheet, calendar)), (0, (), ()))
            self.assertEqual(
                [are_apart(sheet, calendar, thing) for thing in ((), [], (("a", "b"),), None)],
                [True, False, False, False],
            )

    def test_things_of_all_kinds(self):
        calendar = Calendar(STAYS)
        right = (("ann", "bob"), ("cat", "dan"), ("dan", "eve"))
        for inner in (*ODD_THINGS, nested(12), Plan(), PRICES, (PRICES,), "ann"):
            things = (
                inner, (inner,), (inner, *right[1:]), (*right[:2], inner), (("ann", inner), *right[1:]),
                ((inner, "bob"), *right[1:]),
            )
            for thing in [one for one in things if one != right]:
                with self.subTest(thing=thing):
                    self.assertIs(are_apart(SIX, calendar, thing), False)


class BestDay(unittest.TestCase):
    def test_best_day(self):
        self.assertEqual(best_day(SIX, Calendar(STAYS)), (3, 3))
        self.assertEqual(
            (best_day(CROWD, always(3, 9)), best_day(CROWD, always(0, 0)), best_day(CROWD, always(40, 40))),
            ((8, 3), (8, 0), (8, 40)),
        )

    def test_rings_and_rows(self):
        sheet = (("a", ("b",)), ("b", ("c",)), ("c", ("a", "x"))), ("x",)
        calendar = Calendar((("a", 0, 4), ("b", 2, 6), ("c", 5, 9)))
        # c alone moves to x, b and c in a row; the home of a, who is away, is not there.
        self.assertEqual(best_day(sheet, calendar), (2, 5))
        calendar["c"] = (3, 9)
        self.assertEqual(best_day(sheet, calendar), (3, 3))
        self.assertEqual(best_day((sheet[0][:1], ("b",)), Calendar((("a", 7, 8),))), (1, 7))

    def test_nobody_moves_on_any_day(self):
        self.assertEqual(best_day((LONELY[0], ()), Calendar((("c", 5, 6), ("d", 3, 4)))), (0, 3))
        self.assertEqual(best_day(LONELY, Calendar((("zoe", 0, 2), ("d", 3, 4)))), (0, 3))

    def test_none_is_ever_there(self):
        for sheet, stays in ((NOBODY, STAYS), (SIX, ()), (SIX, (("zoe", 0, 9),)), (((), ("x",)), STAYS)):
            self.assertIsNone(best_day(sheet, Calendar(stays)))


if __name__ == "__main__":
    unittest.main()
