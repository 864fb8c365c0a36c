"""An exchange: promise [12], ordinary inputs, edges and wrong inputs."""

import unittest

from crosshomes.data import households, is_sheet
from crosshomes.days import Calendar
from crosshomes.errors import BadBound, BadOrder, NoHome, NoHousehold, Stopped, Taken
from crosshomes.exchange import Exchange
from crosshomes.orders import Order
from crosshomes.plans import Plan
from tests.helper import CROWD, LONELY, NOBODY, PRICES, SIX, lists, raised

EVERYBODY = ("ann", "bob", "cat", "dan", "eve", "fay")
BOUNDS = (2, 3, None)
FORK = ((("a", ("b",)), ("b", ("a", "c")), ("c", ("d",)), ("d", ("b",))), ())
# Everybody wants everything: 6 households and 2 empty homes.
SIX_ALL = (tuple((name, tuple(home for home in "abcdefxy" if home != name)) for name in "abcdef"), ("x", "y"))


def with_order(sheet, order, bound=2):
    exchange = Exchange(sheet, bound=bound)
    exchange.order = tuple(order)
    return exchange


def shown(exchange):
    return exchange.sheet, exchange.order, exchange.bound, exchange.plans


class Beginning(unittest.TestCase):
    def test_without_households(self):
        for exchange in (Exchange(), Exchange(NOBODY), Exchange(sheet=((), ())), Exchange([[], []]), Exchange(bound=2)):
            self.assertEqual(shown(exchange), (NOBODY, (), 2, ()))
            self.assertEqual((len(exchange), "ann" in exchange, exchange.plan(), exchange.undo()), (0, False, Plan(), False))
        for bound in BOUNDS:
            exchange = Exchange(((), ("x",)), bound=bound)
            self.assertEqual(
                (exchange.bound, exchange.plan(), exchange.run(), exchange.run(), exchange.plans),
                (bound, Plan(), Plan(), Plan(), (Plan(), Plan())),
            )
            self.assertEqual((exchange.sheet, exchange.order), (((), ("x",)), ()))

    def test_with_a_sheet(self):
        exchange = Exchange(SIX)
        self.assertEqual(shown(exchange), (SIX, EVERYBODY, 2, ()))
        self.assertEqual((len(exchange), exchange["fay"], exchange["ann"]), (6, ("cat", "new"), ("bob",)))
        self.assertEqual(["ann" in exchange, "new" in exchange, "zoe" in exchange, "" in exchange], [True, False, False, False])

    def test_bounds(self):
        for bound in BOUNDS:
            self.assertEqual(Exchange(SIX, bound=bound).bound, bound)
        for bound in (0, 1, 4, -2, 10 ** 30, "2", "any", "", True, False, (2,), [2], (), Plan(), PRICES):
            with self.subTest(bound=bound):
                self.assertEqual(raised(lambda: Exchange(SIX, bound=bound)), (BadBound, {"bound": bound}))

    def test_kinds_of_values(self):
        exchange = Exchange(lists(SIX))
        self.assertTrue(is_sheet(exchange.sheet))
        exchange.run()
        for found in (exchange["fay"], exchange.order, exchange.plans, exchange.sheet):
            self.assertIs(found.__class__, tuple)
        for found in (exchange.plan(), exchange.run(), exchange.plans[0]):
            self.assertIs(found.__class__, Plan)
        self.assertIs(exchange.undo().__class__, bool)
        self.assertIs(exchange.twin().__class__, Exchange)

    def test_it_copies(self):
        sheet = lists(SIX)
        exchange = Exchange(sheet)
        sheet[0].pop()
        sheet[0][0][1].append("cat")
        sheet[1].append("old")
        self.assertEqual(exchange.sheet, SIX)
        wants, order, gone = ["ann"], list(EVERYBODY[::-1]), ["ann"]
        exchange["bob"] = wants
        exchange.order = order
        exchange.run(gone=gone)
        deeds = [["want", "ann", ["bob"]], ["order", order]]
        wants.append("eve")
        order.pop()
        gone.append("bob")
        self.assertEqual((exchange["bob"], exchange.order), (("ann",), ("fay", "cat", "bob", "ann")))
        deeds[1][1] = ["ann", "bob", "cat", "fay"]
        exchange.attempt(deeds)
        deeds[0][2].append("cat")
        deeds[1][1].pop()
        self.assertEqual((exchange["ann"], exchange.order), (("bob",), ("ann", "bob", "cat", "fay")))


class Wishes(unittest.TestCase):
    def test_a_wish(self):
        exchange = Exchange(SIX)
        exchange["fay"] = ("ann", "nohome")
        self.assertEqual((exchange["fay"], exchange.order, len(exchange)), (("ann", "nohome"), EVERYBODY, 6))
        exchange["fay"] = []
        self.assertEqual((exchange["fay"], exchange.sheet[0][5], len(exchange)), ((), ("fay", ()), 6))

    def test_the_place_in_the_order_stays(self):
        exchange = with_order(SIX, EVERYBODY[::-1])
        exchange["cat"] = ("fay",)
        self.assertEqual(exchange.order, EVERYBODY[::-1])

    def test_one_more_joins_behind_all_others(self):
        exchange = Exchange(SIX)
        exchange["bea"] = ("ann",)
        self.assertEqual((exchange.order, len(exchange), "bea" in exchange), ((*EVERYBODY, "bea"), 7, True))
        self.assertEqual([name for name, _ in exchange.sheet[0]], ["ann", "bea", "bob", "cat", "dan", "eve", "fay"])
        exchange["aaa"] = ()
        self.assertEqual(exchange.order, (*EVERYBODY, "bea", "aaa"))
        exchange.leave("bea")
        exchange["bea"] = ()
        self.assertEqual(exchange.order, (*EVERYBODY, "aaa", "bea"))

    def test_taken(self):
        exchange = Exchange(SIX)
        self.assertEqual(raised(lambda: exchange.__setitem__("new", ())), (Taken, {"name": "new"}))
        self.assertEqual((shown(exchange), exchange.undo()), ((SIX, EVERYBODY, 2, ()), False))
        exchange.close("new")
        exchange["new"] = ("ann",)
        self.assertEqual(exchange["new"], ("ann",))

    def test_a_wish_that_counts_for_nothing_counts_when_the_home_comes(self):
        exchange = Exchange(((("ann", ("bob",)),), ()), bound=None)
        self.assertEqual(exchange.plan(), Plan())
        exchange.offer("bob")
        self.assertEqual(exchange.plan().parts, ((("ann",), "bob"),))
        exchange.close("bob")
        exchange["bob"] = ("ann",)
        self.assertEqual(exchange.plan().parts, ((("ann", "bob"), ""),))

    def test_names_that_are_none(self):
        exchange = Exchange(SIX)
        for name in ("new", "zoe"):
            self.assertEqual(raised(lambda: exchange[name]), (NoHousehold, {"name": name}))


class LeavingAndHomes(unittest.TestCase):
    def test_leave(self):
        exchange = Exchange(SIX)
        self.assertIsNone(exchange.leave("cat"))
        self.assertEqual((len(exchange), exchange.order, "cat" in exchange), (5, ("ann", "bob", "dan", "eve", "fay"), False))
        self.assertEqual((exchange["bob"], exchange.sheet[1]), (("ann", "cat"), ("new",)))
        for name in ("cat", "new", "zoe"):
            self.assertEqual(raised(lambda: exchange.leave(name)), (NoHousehold, {"name": name}))
        self.assertEqual(len(exchange), 5)

    def test_offer(self):
        exchange = Exchange(SIX)
        self.assertIsNone(exchange.offer(home="big"))
        self.assertEqual(exchange.sheet, (SIX[0], ("big", "new")))
        for home in ("big", "new", "ann"):
            self.assertEqual(raised(lambda: exchange.offer(home)), (Taken, {"name": home}))
        self.assertEqual((exchange.sheet[1], "big" in exchange, len(exchange)), (("big", "new"), False, 6))

    def test_close(self):
        exchange = Exchange(SIX)
        for home in ("ann", "zoe"):
            self.assertEqual(raised(lambda: exchange.close(home)), (NoHome, {"home": home}))
        self.assertEqual(exchange.sheet, SIX)
        self.assertIsNone(exchange.close("new"))
        self.assertEqual(exchange.sheet, (SIX[0], ()))
        self.assertEqual(raised(lambda: exchange.close("new")), (NoHome, {"home": "new"}))

    def test_a_home_that_was_left_can_be_offered(self):
        exchange = Exchange(SIX)
        exchange.leave("cat")
        exchange.offer("cat")
        self.assertEqual((exchange.sheet[1], "cat" in exchange), (("cat", "new"), False))
        self.assertEqual(raised(lambda: exchange.__setitem__("cat", ())), (Taken, {"name": "cat"}))


class BoundAndOrder(unittest.TestCase):
    def test_bound(self):
        exchange = Exchange(SIX)
        for bound in (3, None, 2, 2):
            exchange.bound = bound
            self.assertEqual(exchange.bound, bound)
        for bound in (1, 4, 0, "2", True, 2.0, 3.0, (), [3], Plan(), PRICES):
            for call in (lambda: setattr(exchange, "bound", bound), lambda: exchange.change("bound", bound)):
                self.assertEqual(raised(call), (BadBound, {"bound": bound}))
                self.assertEqual(exchange.bound, 2)

    def test_order(self):
        exchange = Exchange(SIX)
        for line in (EVERYBODY[::-1], ["cat", "ann", "bob", "dan", "fay", "eve"]):
            exchange.order = line
            self.assertEqual((exchange.order, exchange.sheet), (tuple(line), SIX))

    def test_wrong_orders(self):
        exchange = Exchange(SIX)
        wrong = (
            (("ann", "new", "zoe"), NoHousehold, "new"), (("ann", "bob", "ann"), NoHousehold, "ann"),
            ((*EVERYBODY, "bob"), NoHousehold, "bob"),
            (("ann", "bob", "bob", "zoe"), NoHousehold, "bob"), (("ann", "zoe", "ann"), NoHousehold, "zoe"),
            (["zoe"], NoHousehold, "zoe"),
            ((*EVERYBODY, "zoe"), NoHousehold, "zoe"), (("eve", "eve", "cat", "cat"), NoHousehold, "eve"),
            ((), BadOrder, None), (EVERYBODY[1:], BadOrder, None),
            (list(EVERYBODY[:5]), BadOrder, None),
        )
        for line, error, name in wrong:
            for call in (lambda: setattr(exchange, "order", line), lambda: exchange.change("order", line)):
                with self.subTest(line=line):
                    self.assertEqual(raised(call), (error, {} if name is None else {"name": name}))
                    self.assertEqual((exchange.order, exchange.undo()), (EVERYBODY, False))
        self.assertEqual(raised(lambda: setattr(Exchange(), "order", ("ann",))), (NoHousehold, {"name": "ann"}))

    def test_an_order_without_households(self):
        exchange = Exchange(((), ("x",)))
        exchange.order = ()
        self.assertEqual((exchange.order, exchange.undo(), exchange.undo()), ((), True, False))

    def test_change(self):
        exchange = Exchange(SIX)
        self.assertIsNone(exchange.change("bound", None))
        self.assertIsNone(exchange.change(value=list(EVERYBODY[::-1]), word="order"))
        self.assertEqual((exchange.bound, exchange.order), (None, EVERYBODY[::-1]))
        self.assertEqual((exchange.undo(), exchange.order, exchange.bound), (True, EVERYBODY, None))
        self.assertEqual((exchange.undo(), exchange.bound, exchange.undo()), (True, 2, False))

    def test_what_cannot_be_set(self):
        for word in ("sheet", "plans"):
            self.assertRaises(AttributeError, setattr, Exchange(SIX), word, ())


class Plans(unittest.TestCase):
    def test_bounds(self):
        self.assertEqual(Exchange(SIX).plan().text, "ann>bob>ann; cat>dan>cat")
        self.assertEqual(Exchange(SIX, bound=3).plan().text, "ann>bob>ann; cat>dan>eve>cat")
        self.assertEqual(Exchange(SIX, bound=None).plan().text, "ann>bob>ann; cat>dan>eve>cat; fay>new")
        ring = (tuple(zip("abcd", (("b",), ("c",), ("d",), ("a",)))), ())
        self.assertEqual([Exchange(ring, bound=bound).plan().text for bound in BOUNDS], ["-", "-", "a>b>c>d>a"])
        self.assertEqual([Exchange(LONELY, bound=bound).plan().text for bound in BOUNDS], ["-", "-", "a>b>c>e"])

    def test_no_rows_with_the_bounds_2_and_3(self):
        sheet = ((("a", ("b", "x")), ("b", ("y",))), ("x", "y"))
        self.assertEqual([Exchange(sheet, bound=bound).plan().text for bound in BOUNDS], ["-", "-", "a>b>y"])

    def test_as_many_as_can_be_come_first(self):
        # Whatever the order, three of the fork move by a ring, and a and b alone would be two.
        for order in (("a", "b", "c", "d"), ("d", "c", "a", "b")):
            self.assertEqual(with_order(FORK, order, None).plan().text, "b>c>d>b")
            self.assertEqual(with_order(FORK, order, 3).plan().text, "b>c>d>b")
            self.assertEqual(with_order(FORK, order, 2).plan().text, "a>b>a")

    def test_as_many_as_can_be_whoever_is_ahead(self):
        # Two rows to one empty home, the shorter one of those who stand first.
        sheet = ((("a", ("b",)), ("b", ("x",)), ("c", ("d",)), ("d", ("e",)), ("e", ("x",))), ("x",))
        self.assertEqual(with_order(sheet, "abcde", None).plan().text, "c>d>e>x")
        self.assertEqual(with_order((sheet[0][:4], ("e", "x")), "abcd", None).plan().text, "a>b>x; c>d>e")
        long = ((("a", ("x",)), *[(name, (other,)) for name, other in zip("bcdef", "cdefx")]), ("x",))
        for order in ("abcdef", "afedcb", "bacdef"):
            self.assertEqual(with_order(long, order, None).plan().text, "b>c>d>e>f>x")
        rings = ((("a", ("b",)), ("b", ("a", "c")), ("c", ("d",)), ("d", ("b",))), ())
        self.assertEqual(with_order(rings, "abcd", 3).plan().text, "b>c>d>b")

    def test_the_order_tells_who_moves(self):
        sheet = ((("a", ("x",)), ("b", ("x",)), ("c", ("x",))), ("x",))
        self.assertEqual([with_order(sheet, order, None).plan().text for order in ("abc", "bca", "cab")], ["a>x", "b>x", "c>x"])
        self.assertEqual(with_order(SIX, ("eve", "ann", "bob", "cat", "dan", "fay")).plan().text, "ann>bob>ann; cat>eve>cat")
        self.assertEqual(with_order(SIX, ("eve", "dan", "cat", "bob", "ann", "fay")).plan().text, "bob>cat>bob; dan>eve>dan")

    def test_the_earliest_first_and_not_most_of_the_early_ones(self):
        # a swaps with d alone; b and c could swap with one another, or with d: a first, then b.
        sheet = ((("a", ("d",)), ("b", ("c", "d")), ("c", ("b", "d")), ("d", ("a", "b", "c")), ("e", ("d",))), ())
        self.assertEqual(with_order(sheet, ("a", "b", "c", "d", "e")).plan().text, "a>d>a; b>c>b")
        three = ((("a", ("d",)), ("b", ("d",)), ("c", ("d",)), ("d", ("a", "b", "c"))), ())
        self.assertEqual(
            [with_order(three, order).plan().text for order in ("abcd", "cbad", "dbac")], ["a>d>a", "c>d>c", "b>d>b"],
        )

    def test_the_least_homes(self):
        self.assertEqual(Exchange(SIX_ALL).plan().text, "a>b>a; c>d>c; e>f>e")
        self.assertEqual(Exchange(SIX_ALL, bound=3).plan().text, "a>b>a; c>d>c; e>f>e")
        self.assertEqual(Exchange(SIX_ALL, bound=None).plan().text, "a>b>a; c>d>c; e>f>e")
        self.assertEqual(Exchange((SIX_ALL[0][:3], ()), bound=3).plan().text, "a>b>c>a")
        self.assertEqual(Exchange((SIX_ALL[0][:5], ()), bound=3).plan().text, "a>b>a; c>d>e>c")
        # Homes are compared by name, empty ones among them; the order makes no difference to where.
        sheet = ((("b", ("m", "z")), ("c", ("a", "z"))), ("a", "m", "z"))
        for order in ("bc", "cb"):
            self.assertEqual(with_order(sheet, order, None).plan().text, "b>m; c>a")
        sheet = ((("b", ("a", "m")), ("c", ("a", "z"))), ("a", "m", "z"))
        for order in ("bc", "cb"):
            self.assertEqual(with_order(sheet, order, None).plan().text, "b>a; c>z")

    def test_who_stays_counts_with_its_own_home(self):
        sheet = ((("a", ()), ("b", ("x", "y")), ("c", ("x", "y"))), ("x", "y"))
        self.assertEqual(Exchange(sheet, bound=None).plan().text, "b>x; c>y")

    def test_two_directions(self):
        both = (tuple((name, tuple(other for other in "abc" if other != name)) for name in "abc"), ())
        self.assertEqual(Exchange(both, bound=3).plan().text, "a>b>c>a")
        one = ((("a", ("b", "c")), ("b", ("a",)), ("c", ("b",))), ())
        self.assertEqual(Exchange(one, bound=3).plan().text, "a>c>b>a")

    def test_it_does_nothing(self):
        exchange = Exchange(SIX, bound=None)
        before = shown(exchange)
        self.assertEqual((exchange.plan(), shown(exchange), exchange.undo()), (exchange.plan(), before, False))

    def test_at_the_bounds(self):
        exchange = Exchange(CROWD)
        self.assertEqual(exchange.plan().text, "a>b>a; c>d>c; e>f>e; g>h>g")
        exchange.order = tuple("hgfedcba")
        self.assertEqual(exchange.plan().text, "a>b>a; c>d>c; e>f>e; g>h>g")
        for bound in BOUNDS:
            exchange = Exchange(SIX_ALL, bound=bound)
            self.assertEqual(
                (len(exchange.plan()), len(exchange.run()), len(exchange), exchange.plans[0].movers),
                (6, 6, 0, tuple("abcdef")),
            )
        # Somewhat beyond them, too.
        for bound in BOUNDS:
            self.assertEqual(len(Exchange(CROWD, bound=bound).plan()), 8)


class Runs(unittest.TestCase):
    def test_who_moves_leaves(self):
        exchange = with_order(SIX, EVERYBODY[::-1])
        plan = exchange.run()
        self.assertEqual((plan.text, exchange.plans, exchange.order), ("bob>cat>bob; dan>eve>dan", (plan,), ("fay", "ann")))
        self.assertEqual(exchange.sheet, ((("ann", ("bob",)), ("fay", ("cat", "new"))), ("new",)))
        self.assertEqual((exchange.run(), exchange.plans), (Plan(), (plan, Plan())))

    def test_empty_homes(self):
        exchange = Exchange((*SIX[:1], ("new", "old")), bound=None)
        plan = exchange.run()
        self.assertEqual((plan.ends, plan.left, exchange.sheet), (("new",), ("fay",), ((), ("fay", "old"))))
        self.assertEqual((len(exchange), exchange.order, "fay" in exchange), (0, (), False))
        self.assertEqual(raised(lambda: exchange.__setitem__("fay", ())), (Taken, {"name": "fay"}))

    def test_a_row_that_is_cut(self):
        sheet = ((("a", ("b",)), ("b", ("c",)), ("c", ("x",)), ("d", ("a",))), ("x",))
        for gone, text, rows, empties in (
            ((), "d>a>b>c>x", (), ("d",)), (("d",), "a>b>c>x", sheet[0][3:], ("a",)),
            (("a",), "b>c>x", (sheet[0][0], sheet[0][3]), ("b",)),
            (("c",), "-", sheet[0], ("x",)), (("b", "d"), "c>x", (*sheet[0][:2], sheet[0][3]), ("c",)),
            (("a", "b", "c", "d"), "-", sheet[0], ("x",)),
        ):
            exchange = Exchange(sheet, bound=None)
            with self.subTest(gone=gone):
                self.assertEqual((exchange.run(gone=gone).text, exchange.sheet), (text, (rows, empties)))
                self.assertEqual((exchange.order, len(exchange.plans)), (tuple(name for name, _ in rows), 1))

    def test_a_ring_that_is_cut(self):
        exchange = Exchange(SIX, bound=3)
        self.assertEqual(exchange.run(gone=["ann", "fay"]).text, "cat>dan>eve>cat")
        self.assertEqual((exchange.order, exchange.sheet[1]), (("ann", "bob", "fay"), ("new",)))

    def test_who_stays_may_withdraw(self):
        self.assertEqual(Exchange(SIX).run(gone=("eve", "fay")).text, "ann>bob>ann; cat>dan>cat")

    def test_names_that_are_none(self):
        exchange = Exchange(SIX)
        for gone, name in ((("new",), "new"), (("ann", "bea", "zoe"), "bea"), (["zoe"], "zoe")):
            self.assertEqual(raised(lambda: exchange.run(gone=gone)), (NoHousehold, {"name": name}))
            self.assertEqual(shown(exchange), (SIX, EVERYBODY, 2, ()))
        self.assertEqual(raised(lambda: Exchange().run(gone=("ann",))), (NoHousehold, {"name": "ann"}))
        self.assertEqual(raised(lambda: exchange.run(("ann",))), (TypeError, {}))

    def test_plans_of_several_runs(self):
        exchange = Exchange(SIX)
        one, two, three = exchange.run(gone=("cat",)), exchange.run(), exchange.run()
        self.assertEqual([plan.text for plan in (one, two, three)], ["ann>bob>ann", "cat>dan>cat", "-"])
        self.assertEqual((exchange.plans, exchange.order), ((one, two, three), ("eve", "fay")))


class Attempts(unittest.TestCase):
    def test_all_deeds(self):
        exchange = Exchange(SIX)
        deeds = (
            ("want", "gus", ("ann",)), ("leave", "fay"), ("offer", "big"), ("close", "new"), ("bound", 3),
            ("order", ("gus", "eve", "dan", "cat", "bob", "ann")), ("run", ("ann",)), ("run", ()),
        )
        told = exchange.attempt(deeds)
        self.assertEqual(told, (None, None, None, None, None, None, *exchange.plans))
        self.assertEqual([plan.text for plan in exchange.plans], ["cat>dan>eve>cat", "ann>bob>ann"])
        self.assertIs(told.__class__, tuple)
        self.assertEqual((exchange.sheet, exchange.order, exchange.bound), (((("gus", ("ann",)),), ("big",)), ("gus",), 3))
        self.assertEqual((exchange.undo(), shown(exchange), exchange.undo()), (True, (SIX, EVERYBODY, 2, ()), False))
        again = Exchange(SIX)
        self.assertEqual(again.attempt(deeds=lists(deeds)), told)

    def test_each_deed_is_as_its_own_call(self):
        calls = (
            (("want", "gus", ("ann",)), lambda one: one.__setitem__("gus", ("ann",))),
            (("leave", "fay"), lambda one: one.leave("fay")),
            (("offer", "big"), lambda one: one.offer("big")), (("close", "new"), lambda one: one.close("new")),
            (("bound", None), lambda one: one.change("bound", None)),
            (("order", EVERYBODY[::-1]), lambda one: one.change("order", EVERYBODY[::-1])),
            (("run", ("cat",)), lambda one: one.run(gone=("cat",))),
        )
        for deed, call in calls:
            one, other = Exchange(SIX), Exchange(SIX)
            with self.subTest(deed=deed):
                self.assertEqual(one.attempt((deed,)), (call(other),))
                self.assertTrue(one == other)
                self.assertFalse(one == Exchange(SIX))
                self.assertEqual((one.undo(), one == Exchange(SIX), one.undo()), (True, True, False))

    def test_without_deeds(self):
        exchange = Exchange(SIX)
        exchange.leave("fay")
        self.assertEqual((exchange.attempt(()), exchange.attempt([])), ((), ()))
        self.assertEqual(
            [exchange.undo(), exchange.undo(), len(exchange), exchange.undo(), len(exchange), exchange.undo()],
            [True, True, 5, True, 6, False],
        )

    def test_stopped(self):
        wrong = (
            (("want", "new", ()), "Taken", "new"), (("leave", "zoe"), "NoHousehold", "zoe"),
            (("offer", "ann"), "Taken", "ann"),
            (("offer", "new"), "Taken", "new"), (("close", "ann"), "NoHome", "ann"), (("bound", 5), "BadBound", 5),
            (("bound", (2,)), "BadBound", (2,)),
            (("order", ("ann", "ann")), "NoHousehold", "ann"), (("order", ("ann",)), "BadOrder", None),
            (("run", ("ann", "zoe", "yan")), "NoHousehold", "zoe"),
        )
        for deed, word, value in wrong:
            exchange = Exchange(SIX)
            with self.subTest(deed=deed):
                for ahead in ((), (("offer", "old"), ("want", "zed", ()))):
                    stopped = raised(lambda: exchange.attempt((*ahead, deed, ("leave", "zoe"))))
                    self.assertEqual(stopped, (Stopped, {"number": len(ahead), "word": word, "value": value}))
                self.assertEqual((shown(exchange), exchange.undo()), ((SIX, EVERYBODY, 2, ()), False))

    def test_the_first_that_fails(self):
        exchange = Exchange(SIX)
        deeds = (("run", ()), ("close", "old"), ("leave", "zoe"))
        self.assertEqual(raised(lambda: exchange.attempt(deeds)), (Stopped, {"number": 1, "word": "NoHome", "value": "old"}))

    def test_what_is_right_only_behind_others(self):
        exchange = Exchange(SIX)
        deeds = (("close", "new"), ("want", "new", ("ann",)), ("leave", "ann"), ("offer", "ann"))
        self.assertEqual(exchange.attempt(deeds), (None,) * 4)
        self.assertEqual((exchange.order, exchange.sheet[1]), (("bob", "cat", "dan", "eve", "fay", "new"), ("ann",)))
        # The other way round the wish for a taken name fails.
        self.assertEqual(
            raised(lambda: Exchange(SIX).attempt(deeds[1::-1])),
            (Stopped, {"number": 0, "word": "Taken", "value": "new"}),
        )

    def test_undo_behind_a_failed_attempt(self):
        exchange = Exchange(SIX)
        exchange.bound = 3
        self.assertEqual(raised(lambda: exchange.attempt((("run", ()), ("leave", "ann"))))[0], Stopped)
        self.assertEqual((exchange.bound, exchange.undo(), exchange.bound, exchange.undo()), (3, True, 2, False))


class Undo(unittest.TestCase):
    def test_each_deed(self):
        exchange = Exchange(SIX)
        states = [exchange.twin()]
        deeds = (
            lambda: exchange.__setitem__("ann", ("cat",)), lambda: exchange.__setitem__("gus", ()),
            lambda: exchange.leave("gus"), lambda: exchange.offer("old"),
            lambda: exchange.close("new"), lambda: setattr(exchange, "bound", 3),
            lambda: setattr(exchange, "order", EVERYBODY[::-1]),
            lambda: exchange.change("bound", None), lambda: exchange.change("order", EVERYBODY),
            lambda: exchange.run(gone=("ann",)), lambda: exchange.attempt(()),
            lambda: exchange.attempt((("leave", "fay"), ("run", ()))),
        )
        for deed in deeds:
            deed()
            states.append(exchange.twin())
        for state in states[-2::-1]:
            self.assertIs(exchange.undo(), True)
            self.assertEqual(shown(exchange), shown(state))
        self.assertEqual((exchange.undo(), exchange.undo(), shown(exchange)), (False, False, (SIX, EVERYBODY, 2, ())))

    def test_deeds_that_change_nothing(self):
        exchange = Exchange(SIX)
        exchange["ann"] = ("bob",)
        exchange.bound = 2
        exchange.order = EVERYBODY
        exchange.change("bound", 2)
        self.assertTrue(exchange == Exchange(SIX))
        self.assertEqual([exchange.undo() for _ in range(5)], [True, True, True, True, False])
        empty = Exchange(((("a", ()),), ()))
        empty.run()
        empty.run()
        self.assertEqual(
            [len(empty.plans), empty.undo(), len(empty.plans), empty.undo(), len(empty.plans), empty.undo()],
            [2, True, 1, True, 0, False],
        )

    def test_undo_takes_back_no_undo(self):
        exchange = Exchange(SIX)
        exchange.bound = 3
        exchange.bound = None
        exchange.undo()
        exchange.undo()
        self.assertEqual((exchange.bound, exchange.undo(), exchange.bound), (2, False, 2))

    def test_deeds_behind_undo(self):
        exchange = Exchange(SIX)
        exchange.bound = 3
        exchange.undo()
        exchange.leave("ann")
        self.assertEqual((exchange.undo(), exchange.undo(), len(exchange), exchange.bound), (True, False, 6, 2))

    def test_what_fails_is_no_deed(self):
        exchange = Exchange(SIX)
        calls = (
            lambda: exchange.leave("zoe"), lambda: exchange.offer("ann"), lambda: exchange.close("ann"),
            lambda: exchange.run(gone=("zoe",)),
            lambda: exchange.change("bound", 4), lambda: exchange.change("order", ()),
            lambda: exchange.__setitem__("new", ()), lambda: exchange["zoe"],
        )
        for call in calls:
            self.assertIsNotNone(raised(call))
            self.assertEqual((exchange.undo(), shown(exchange)), (False, (SIX, EVERYBODY, 2, ())))


class Twins(unittest.TestCase):
    def test_a_twin_undoes_as_far(self):
        exchange = Exchange(SIX)
        exchange.bound = None
        exchange.run(gone=("fay",))
        twin = exchange.twin()
        self.assertTrue(twin == exchange)
        self.assertEqual(
            [twin.undo(), twin.bound, len(twin), twin.undo(), twin.bound, twin.undo()],
            [True, None, 6, True, 2, False],
        )
        self.assertEqual((len(exchange), exchange.bound, len(exchange.plans)), (1, None, 1))
        self.assertEqual([exchange.undo(), exchange.undo(), exchange.undo()], [True, True, False])

    def test_it_shares_nothing(self):
        exchange = Exchange(SIX)
        twin = exchange.twin()
        twin.leave("ann")
        twin["bob"] = ()
        twin.offer("old")
        twin.order = ("fay", "eve", "dan", "cat", "bob")
        twin.run()
        self.assertEqual((shown(exchange), exchange.undo()), ((SIX, EVERYBODY, 2, ()), False))
        other = exchange.twin()
        exchange.leave("cat")
        self.assertEqual((len(other), other.undo(), other == Exchange(SIX)), (6, False, True))

    def test_a_twin_that_is_equal_undoes_otherwise(self):
        exchange = Exchange(SIX)
        exchange.attempt(())
        self.assertTrue(exchange == Exchange(SIX))
        self.assertEqual((exchange.twin().undo(), Exchange(SIX).undo(), exchange.undo()), (True, False, True))

    def test_equal(self):
        exchange = Exchange(SIX)
        self.assertTrue(exchange == Exchange(lists(SIX), bound=2))
        self.assertFalse(exchange != Exchange(SIX))
        others = [
            Exchange(SIX, bound=3), Exchange(SIX, bound=None), with_order(SIX, EVERYBODY[::-1]),
            Exchange((SIX[0], ())), Exchange(), Exchange(LONELY),
        ]
        done = Exchange(LONELY)
        done.run()
        self.assertEqual((done.sheet, done.order, done == Exchange(LONELY)), (LONELY, ("a", "b", "c", "d"), False))
        for other in (*others, done, SIX, (), None, 0, 2, Plan(), PRICES, Order(EVERYBODY), Calendar(()), (SIX, EVERYBODY, 2, ())):
            with self.subTest(other=other):
                self.assertIs(exchange == other, False)
                self.assertIs(other == exchange, False)
                self.assertIs(exchange != other, True)

    def test_equal_whatever_the_way(self):
        """The same households that joined in another order, and stand in the same one now."""
        exchange = Exchange()
        for name, wants in SIX[0][::-1]:
            exchange[name] = wants
        exchange.offer("new")
        self.assertFalse(exchange == Exchange(SIX))
        self.assertEqual((exchange.order, exchange.sheet), (EVERYBODY[::-1], SIX))
        exchange.order = EVERYBODY
        self.assertTrue(exchange == Exchange(SIX))
        self.assertEqual(exchange.order, households(exchange.sheet))


if __name__ == "__main__":
    unittest.main()
