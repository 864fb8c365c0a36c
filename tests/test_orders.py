"""Order lists: promise [7], ordinary inputs, edges and wrong inputs."""

import itertools
import types
import unittest

from crosshomes.errors import NoHousehold
from crosshomes.orders import (
    Order, by_classes, can_move, is_why_not, kept, maybe_in, more_from, most_of, pushed_out, sure_in, walk, why_left,
    why_not, worth,
)
from crosshomes.plans import Plan
from tests.helper import CROWD, KITE, LONELY, NOBODY, ODD_THINGS, PRICES, SIX, lists, raised

EVERYBODY = ("ann", "bob", "cat", "dan", "eve", "fay")
LINE = ("fay", "dan", "ann", "cat", "eve", "bob")
EIGHT = tuple("abcdefgh")
# b suits a and c, d and e suit each other; f wants all and suits nobody.
MIXED = ((("a", ("b",)), ("b", ("a", "c")), ("c", ("b",)), ("d", ("e",)), ("e", ("d",)), ("f", tuple("abcde"))), ("x",))


class Together(unittest.TestCase):
    def test_nobody(self):
        self.assertEqual((can_move(NOBODY, ()), most_of(NOBODY, ()), why_not(NOBODY, ()), is_why_not(NOBODY, (), ())), (True, 0, None, False))
        self.assertEqual((can_move(SIX, ()), most_of(SIX, ()), why_not(SIX, ()), is_why_not(SIX, (), ())), (True, 0, None, False))

    def test_nobody_suits_anybody(self):
        for some in (("a",), ("a", "b"), ("a", "b", "c", "d")):
            self.assertEqual((can_move(LONELY, some), most_of(LONELY, some)), (False, 0))
            self.assertEqual((why_not(LONELY, some), is_why_not(LONELY, some, ())), ((), True))

    def test_a_crowd(self):
        self.assertEqual((can_move(CROWD, EIGHT), most_of(CROWD, EIGHT), why_not(CROWD, EIGHT)), (True, 8, None))
        seven = (tuple((name, tuple(other for other in EIGHT[:7] if other != name)) for name in EIGHT[:7]), ())
        self.assertEqual((can_move(seven, EIGHT[:7]), most_of(seven, EIGHT[:7]), why_not(seven, EIGHT[:7])), (False, 6, ()))
        self.assertIs(can_move(seven, EIGHT[:6]), True)

    def test_others_may_move_too(self):
        self.assertIs(can_move(SIX, ("ann", "eve")), True)
        self.assertIs(can_move(SIX, ("ann", "cat", "dan")), True)
        self.assertIs(can_move(SIX, ("ann", "cat", "dan", "eve")), False)
        self.assertIs(can_move(SIX, ("fay",)), False)
        self.assertEqual([most_of(SIX, some) for some in (("fay",), ("ann", "fay"), EVERYBODY, ("bob",))], [0, 1, 4, 1])
        self.assertIs(can_move(MIXED, ("a", "c")), False)
        self.assertIs(can_move(MIXED, ("a", "d")), True)
        self.assertEqual(most_of(MIXED, ("a", "c", "d")), 2)

    def test_reasons(self):
        self.assertEqual(why_not(MIXED, ("a", "c")), ("b",))
        for thing, whether in ((("b",), True), ((), False), (("a",), False), (("b", "d"), False), (("c",), False)):
            self.assertIs(is_why_not(MIXED, ("a", "c"), thing), whether)
        # An odd part counts only if it lies wholly in the set.
        self.assertIs(is_why_not(MIXED, ("f",), ()), True)
        self.assertIs(is_why_not(MIXED, ("a", "f"), ()), True)
        self.assertIs(is_why_not(MIXED, ("a", "f"), ("b",)), True)
        self.assertIs(is_why_not(MIXED, ("f",), ("b",)), False)

    def test_the_whole_number_is_asked(self):
        # One part more than members would be enough for one who must stay, not for two.
        self.assertEqual(most_of(MIXED, ("a", "c", "f")), 1)
        self.assertEqual([is_why_not(MIXED, ("a", "c", "f"), thing) for thing in ((), ("b",), ("b", "f"))], [False, True, False])

    def test_no_reason_if_all_can(self):
        for thing in ((), ("b",), ("a",)):
            self.assertIs(is_why_not(MIXED, ("a", "d"), thing), False)
            self.assertIs(is_why_not(MIXED, (), thing), False)

    def test_is_why_not_of_other_things(self):
        some = ("ann", "cat", "dan", "eve")
        for thing in (["bob"], [], ("zoe",), ("new",), ("bob", "bob"), ("fay", "bob"), ("bob", "zoe"), "bob", ("bob", 0), None, True, 1):
            with self.subTest(thing=thing):
                self.assertIs(is_why_not(SIX, some, thing), False)
        for thing in [one for one in ODD_THINGS if one != ()]:
            with self.subTest(thing=thing):
                self.assertIs(is_why_not(SIX, some, thing), False)
        self.assertIs(is_why_not(SIX, some, ("bob",)), True)


class Kept(unittest.TestCase):
    def test_nobody(self):
        self.assertEqual((kept(NOBODY, ()), list(walk(NOBODY, ())), kept(NOBODY, Order(()))), ((), [], ()))

    def test_nobody_suits_anybody(self):
        self.assertEqual((kept(LONELY, ("d", "b", "a", "c")), kept(LONELY, ("a", "b", "c", "d"), first=("d",))), ((), ()))
        self.assertEqual(list(walk(LONELY, ("d", "b", "a", "c"))), [("d", False), ("b", False), ("a", False), ("c", False)])
        self.assertEqual([why_left(LONELY, ("d", "b", "a", "c"), name) for name in "dbac"], [()] * 4)
        self.assertEqual([pushed_out(LONELY, ("d", "b", "a", "c"), name) for name in "dbac"], [None] * 4)

    def test_kept(self):
        self.assertEqual(kept(SIX, EVERYBODY), ("ann", "bob", "cat", "dan"))
        self.assertEqual(kept(SIX, EVERYBODY[::-1]), ("bob", "cat", "dan", "eve"))
        self.assertEqual(kept(SIX, EVERYBODY, first=()), kept(SIX, EVERYBODY))
        self.assertEqual(kept(SIX, EVERYBODY, first=("eve", "dan")), ("ann", "bob", "dan", "eve"))
        self.assertEqual(kept(SIX, EVERYBODY, first=("fay",)), kept(SIX, EVERYBODY))
        self.assertEqual(kept(SIX, EVERYBODY, first=EVERYBODY[::-1]), kept(SIX, EVERYBODY[::-1]))
        self.assertEqual(kept(KITE, ("d", "c", "b", "a")), ("a", "b", "c", "d"))
        self.assertEqual(kept(CROWD, EIGHT), EIGHT)

    def test_first_ones_stand_in_their_own_order(self):
        # c and a both need b: the one in front gets it.
        line = ("d", "e", "f", "b", "a", "c")
        self.assertEqual(kept(MIXED, line), ("a", "b", "d", "e"))
        self.assertEqual(kept(MIXED, line, first=("c", "a")), ("b", "c", "d", "e"))
        self.assertEqual(kept(MIXED, line, first=("a", "c")), ("a", "b", "d", "e"))
        self.assertEqual(kept(MIXED, line, first=["f", "c"]), ("b", "c", "d", "e"))

    def test_walk(self):
        found = walk(SIX, LINE)
        self.assertIsInstance(found, types.GeneratorType)
        self.assertEqual(next(found), ("fay", False))
        self.assertEqual(list(found), [("dan", True), ("ann", True), ("cat", True), ("eve", False), ("bob", True)])

    def test_why_left(self):
        self.assertEqual([why_left(SIX, LINE, name) for name in ("dan", "ann", "cat", "bob")], [None] * 4)
        self.assertIs(is_why_not(SIX, ("fay",), why_left(SIX, LINE, "fay")), True)
        self.assertIs(is_why_not(SIX, ("ann", "cat", "dan", "eve"), why_left(SIX, LINE, "eve")), True)
        # Only those ahead count: b, which is kept too, stands behind.
        self.assertEqual(why_left(MIXED, ("a", "c", "b", "d", "e", "f"), "c"), ("b",))

    def test_pushed_out(self):
        self.assertEqual([pushed_out(SIX, LINE, name) for name in LINE], [None, None, None, None, "cat", None])
        self.assertEqual(pushed_out(MIXED, ("a", "b", "c", "d", "e", "f"), "c"), "a")
        self.assertEqual(pushed_out(MIXED, ("a", "b", "c", "d", "e", "f"), "f"), None)


class Classes(unittest.TestCase):
    def test_nobody(self):
        for classes in ((), ((),), ((), ())):
            self.assertEqual(by_classes(NOBODY, classes), [0] * len(classes))
            self.assertEqual((sure_in(NOBODY, classes), maybe_in(NOBODY, classes)), ((), ()))

    def test_bare_classes(self):
        classes = ((), ("a", "c", "f"), (), (), ("b", "d", "e"), ())
        self.assertEqual(by_classes(MIXED, classes), [0, 1, 0, 0, 3, 0])
        self.assertEqual((sure_in(MIXED, classes), maybe_in(MIXED, classes)), (("b", "d", "e"), ("a", "b", "c", "d", "e")))
        bare = (("a", "c", "f"), ("b", "d", "e"))
        self.assertEqual((by_classes(MIXED, bare), sure_in(MIXED, bare)), ([1, 3], ("b", "d", "e")))

    def test_one_class_and_single_ones(self):
        self.assertEqual((by_classes(SIX, (EVERYBODY,)), sure_in(SIX, (EVERYBODY,))), ([4], ("bob",)))
        self.assertEqual(maybe_in(SIX, (EVERYBODY,)), ("ann", "bob", "cat", "dan", "eve"))
        single = tuple((name,) for name in LINE)
        self.assertEqual(by_classes(SIX, single), [0, 1, 1, 1, 0, 1])
        self.assertEqual((sure_in(SIX, single), maybe_in(SIX, single)), (kept(SIX, LINE), kept(SIX, LINE)))

    def test_all_move_and_nobody_moves(self):
        halves = (EIGHT[:3], EIGHT[3:])
        self.assertEqual((by_classes(CROWD, halves), sure_in(CROWD, halves), maybe_in(CROWD, halves)), ([3, 5], EIGHT, EIGHT))
        lonely = (("a", "d"), ("b", "c"))
        self.assertEqual((by_classes(LONELY, lonely), sure_in(LONELY, lonely), maybe_in(LONELY, lonely)), ([0, 0], (), ()))


class More(unittest.TestCase):
    def test_more_from(self):
        self.assertEqual(more_from(SIX, (), ("bob", "cat")), "bob")
        self.assertEqual(more_from(SIX, ("bob",), ("bob", "cat")), "cat")
        self.assertEqual(more_from(SIX, ("ann",), ("ann",)), None)
        self.assertEqual(more_from(SIX, ("ann",), ()), None)
        self.assertEqual(more_from(MIXED, ("a",), ("c",)), None)
        self.assertEqual(more_from(MIXED, ("a",), ("c", "d")), "d")
        self.assertEqual(more_from(NOBODY, (), ()), None)
        self.assertEqual(more_from(CROWD, ("a", "b"), EIGHT), "c")

    def test_worth(self):
        self.assertEqual(worth(NOBODY, ()), 0)
        self.assertEqual(worth(SIX, (0, 0, 0, 0, 0, 0)), 0)
        self.assertEqual(worth(SIX, (0, 0, 0, 0, 0, 100)), 0)
        self.assertEqual(worth(SIX, (1, 1, 1, 1, 1, 1)), 4)
        self.assertEqual(worth(SIX, (10, 0, 7, 5, 5, 1)), 22)
        self.assertEqual(worth(SIX, (0, 0, 10 ** 20, 0, 1, 0)), 10 ** 20 + 1)
        self.assertEqual(worth(MIXED, (3, 2, 4, 1, 0, 9)), 7)
        self.assertEqual(worth(LONELY, [1, 2, 3, 4]), 0)
        self.assertEqual(worth(CROWD, (1, 2, 3, 4, 5, 6, 7, 8)), 36)


class Orders(unittest.TestCase):
    def test_places(self):
        order = Order(LINE)
        self.assertEqual([order[name] for name in LINE], [0, 1, 2, 3, 4, 5])
        self.assertEqual((len(order), order.line), (6, LINE))
        self.assertEqual((len(Order(())), Order(()).line), (0, ()))

    def test_each_place_for_each_name(self):
        for names in itertools.permutations("abcd"):
            for name, place in itertools.product("abcd", range(4)):
                order = Order(names)
                order[name] = place
                others = [other for other in names if other != name]
                self.assertEqual(order.line, (*others[:place], name, *others[place:]))
                self.assertEqual(order[name], place)

    def test_several_changes(self):
        order = Order(("a", "b", "c"))
        order["c"] = 0
        order["a"] = 2
        order["b"] = 1
        self.assertEqual(order.line, ("c", "b", "a"))

    def test_what_is_in_it(self):
        order = Order(LINE)
        for name in LINE:
            self.assertIs(name in order, True)
        for thing in (*ODD_THINGS, order, LINE, list(LINE), ("fay",), "zoe", Plan((("ann", "bob"), ""))):
            with self.subTest(thing=thing):
                self.assertIs(thing in order, thing == "ann")

    def test_equal(self):
        order = Order(LINE)
        self.assertTrue(order == Order(LINE) and order == Order(list(LINE)))
        self.assertFalse(order != Order(LINE))
        for other in (Order(LINE[::-1]), Order(LINE[:5]), Order(()), LINE, list(LINE), None, 6, Plan(), PRICES):
            with self.subTest(other=other):
                self.assertIs(order == other, False)
                self.assertIs(other == order, False)
                self.assertIs(order != other, True)
        moved = Order(("dan", "fay", *LINE[2:]))
        moved["fay"] = 0
        self.assertTrue(moved == order)

    def test_ahead(self):
        order = Order(("d", "b", "a", "c"))
        cases = (
            (("d",), ("a", "b", "c"), True), (("a", "b", "c"), ("d",), False), (("a", "d"), ("c", "d"), True),
            (("c", "d"), ("a", "d"), False), (("a", "d"), ("d",), True), (("d",), ("a", "d"), False),
            ((), (), False), (("a",), ("a",), False), (("a",), (), True), ((), ("a",), False),
            (("x",), (), False), (("x",), ("c", "y"), False), (("c", "x"), ("y",), True), (("a", "b"), ("a", "b", "z"), False),
        )
        for one, other, whether in cases:
            with self.subTest(one=one, other=other):
                self.assertIs(order.ahead(one, other), whether)
                self.assertIs(order.ahead(list(one), other=list(other)), whether)
        self.assertIs(Order(()).ahead(("a",), ()), False)
        order["c"] = 0
        self.assertIs(order.ahead(("c",), ("d",)), True)

    def test_nothing_but_line_is_there_to_set(self):
        self.assertRaises(AttributeError, setattr, Order(LINE), "line", ())

    def test_arguments_are_copied(self):
        names = list(LINE)
        order = Order(names)
        names.reverse()
        self.assertEqual(order.line, LINE)
        line = order.line
        order["bob"] = 0
        self.assertEqual((line, names), (LINE, list(LINE[::-1])))

    def test_where_an_order_is_taken(self):
        order = Order(LINE)
        for form in (order, list(LINE)):
            self.assertEqual(kept(SIX, form), kept(SIX, LINE))
            self.assertEqual(kept(SIX, form, first=("eve",)), kept(SIX, LINE, first=("eve",)))
            self.assertEqual(list(walk(SIX, form)), list(walk(SIX, LINE)))
            for name in LINE:
                self.assertEqual(why_left(SIX, form, name), why_left(SIX, LINE, name))
                self.assertEqual(pushed_out(SIX, form, name), pushed_out(SIX, LINE, name))
        self.assertEqual(order.line, LINE)
        order["eve"] = 0
        self.assertEqual(kept(SIX, order), kept(SIX, LINE, first=("eve",)))


class Wrong(unittest.TestCase):
    def check(self, name, *calls):
        for at, call in enumerate(calls):
            with self.subTest(name=name, at=at):
                self.assertEqual(raised(call), (NoHousehold, {"name": name}))

    def test_some(self):
        for names, first in ((("zoe",), "zoe"), (("ann", "new"), "new"), (("ann", "bea", "zoe"), "bea"), (["bea", "cat"], "bea")):
            self.check(
                first,
                lambda: can_move(SIX, names), lambda: most_of(SIX, names), lambda: why_not(SIX, names),
                lambda: is_why_not(SIX, names, ("bob",)), lambda: is_why_not(SIX, names, None),
                lambda: more_from(SIX, names, ()), lambda: more_from(SIX, (), names), lambda: more_from(SIX, names, ("aaa",)),
                lambda: more_from(SIX, ("ann",), names),
            )
        self.check("ann", lambda: can_move(NOBODY, ("ann",)), lambda: why_not(NOBODY, ("ann", "bob")))

    def test_names_of_a_thing_are_no_matter(self):
        self.assertIs(is_why_not(SIX, ("fay",), ("zoe",)), False)

    def test_orders(self):
        for line, first in ((("zoe", *EVERYBODY), "zoe"), ((*EVERYBODY, "new"), "new"), (("ann", "zoe", "bea"), "zoe")):
            for form in (line, list(line), Order(line)):
                self.check(
                    first,
                    lambda: kept(SIX, form), lambda: kept(SIX, form, first=("bea",)), lambda: list(walk(SIX, form)),
                    lambda: why_left(SIX, form, "ann"), lambda: why_left(SIX, form, "who"),
                    lambda: pushed_out(SIX, form, "ann"), lambda: pushed_out(SIX, form, "who"),
                )

    def test_walk_asks_for_all_names_first(self):
        self.check("zoe", lambda: next(walk(SIX, (*EVERYBODY, "zoe"))))

    def test_names_beside_an_order(self):
        self.check(
            "zoe",
            lambda: why_left(SIX, LINE, "zoe"), lambda: pushed_out(SIX, LINE, "zoe"), lambda: kept(SIX, LINE, first=("zoe",)),
            lambda: kept(SIX, LINE, first=("ann", "zoe", "bea")), lambda: kept(SIX, Order(LINE), first=["zoe", "ann"]),
        )
        self.check("new", lambda: kept(SIX, LINE, first=("new",)), lambda: why_left(SIX, LINE, "new"))

    def test_classes(self):
        whole = (("ann", "bob"), ("cat", "dan", "eve", "fay"))
        cases = (
            ((*whole, ("new",)), "new"), ((("bea", "zoe"), *whole), "bea"), ((("ann", "zoe"), ("bea", "bob")), "zoe"),
            (((), (), ("gus",), ("bea",)), "gus"),
        )
        for classes, first in cases:
            for form in (classes, lists(classes)):
                self.check(
                    first, lambda: by_classes(SIX, form), lambda: sure_in(SIX, form), lambda: maybe_in(SIX, form),
                )

    def test_names_that_are_not_in_an_order(self):
        order = Order(LINE)

        def put():
            order["zoe"] = 0

        self.check("zoe", lambda: order["zoe"], put)
        self.assertEqual(order.line, LINE)
        self.check("a", lambda: Order(())["a"])


if __name__ == "__main__":
    unittest.main()
