"""Swaps: promise [6], ordinary inputs, edges and wrong inputs."""

import types
import unittest

from crosshomes.errors import NoHousehold
from crosshomes.swaps import (
    every_swaps, idle_swaps, is_barrier, kinds, least_swaps, leaves, most_swaps, partners, parts_in, suiting,
    sure_swaps,
)
from tests.helper import CROWD, KITE, LONELY, NOBODY, ODD_THINGS, SIX, lists, raised

EIGHT = tuple("abcdefgh")


class Most(unittest.TestCase):
    def test_nobody(self):
        self.assertEqual((suiting(NOBODY), most_swaps(NOBODY), least_swaps(NOBODY), list(every_swaps(NOBODY))), ([], 0, (), [()]))
        self.assertEqual((kinds(NOBODY), parts_in(NOBODY, ())), (((), (), ()), []))
        self.assertEqual((sure_swaps(NOBODY), idle_swaps(NOBODY), is_barrier(NOBODY, ())), ([], [], True))

    def test_nobody_suits_anybody(self):
        self.assertEqual((suiting(LONELY), most_swaps(LONELY), least_swaps(LONELY), list(every_swaps(LONELY))), ([], 0, (), [()]))
        self.assertEqual(kinds(LONELY), (("a", "b", "c", "d"), (), ()))
        self.assertEqual([leaves(LONELY, name) for name in "abcd"], [()] * 4)
        self.assertEqual([partners(LONELY, name) for name in "abcd"], [()] * 4)
        self.assertEqual((sure_swaps(LONELY), idle_swaps(LONELY)), ([], []))
        self.assertEqual(parts_in(LONELY, tuple("abcd")), [("a",), ("b",), ("c",), ("d",)])

    def test_a_crowd(self):
        self.assertEqual((len(suiting(CROWD)), most_swaps(CROWD)), (28, 8))
        self.assertEqual(least_swaps(CROWD), (("a", "b"), ("c", "d"), ("e", "f"), ("g", "h")))
        self.assertEqual(len(list(every_swaps(CROWD))), 105)
        self.assertEqual(len(list(every_swaps(CROWD, without=("c",)))), 105)
        self.assertEqual(kinds(CROWD), ((), (), EIGHT))
        self.assertEqual(partners(CROWD, "c"), tuple("abdefgh"))
        self.assertEqual((sure_swaps(CROWD), idle_swaps(CROWD), leaves(CROWD, "a")), ([], [], None))
        self.assertEqual(parts_in(CROWD, EIGHT), [EIGHT])

    def test_empty_homes_make_no_difference(self):
        bare = (tuple((name, tuple(home for home in wants if home in EIGHT)) for name, wants in CROWD[0]), ())
        self.assertEqual(list(every_swaps(CROWD)), list(every_swaps(bare)))
        self.assertEqual(list(every_swaps((SIX[0], ()))), list(every_swaps(SIX)))

    def test_without(self):
        self.assertEqual(suiting(SIX, without=("cat",)), [("ann", "bob"), ("dan", "eve")])
        self.assertEqual(suiting(SIX, without=()), suiting(SIX))
        self.assertEqual(most_swaps(SIX, without=("cat", "dan")), 2)
        self.assertEqual(most_swaps(SIX, without=("ann", "bob", "cat", "dan", "eve", "fay")), 0)
        self.assertEqual(least_swaps(SIX, without=("ann", "dan")), (("bob", "cat"),))
        self.assertEqual(list(every_swaps(SIX, without=("bob",))), [(("cat", "dan"),), (("cat", "eve"),), (("dan", "eve"),)])
        self.assertEqual(list(every_swaps(SIX, without=["bob", "cat", "dan"])), [()])

    def test_every_swaps_is_a_generator(self):
        found = every_swaps(KITE)
        self.assertIsInstance(found, types.GeneratorType)
        self.assertEqual((next(found), next(found, None)), ((("a", "b"), ("c", "d")), None))
        self.assertEqual(
            list(every_swaps(SIX)),
            [(("ann", "bob"), ("cat", "dan")), (("ann", "bob"), ("cat", "eve")), (("ann", "bob"), ("dan", "eve")),
             (("bob", "cat"), ("dan", "eve"))],
        )

    def test_least_is_not_the_first_that_comes(self):
        # Who takes the least pair first, (a, b), has no second one.
        path = ((("a", ("b", "c")), ("b", ("a", "d")), ("c", ("a",)), ("d", ("b",))), ())
        self.assertEqual((least_swaps(path), list(every_swaps(path))), ((("a", "c"), ("b", "d")), [(("a", "c"), ("b", "d"))]))


class Parts(unittest.TestCase):
    def test_parts(self):
        everybody = ("ann", "bob", "cat", "dan", "eve", "fay")
        self.assertEqual(parts_in(SIX, everybody), [("ann", "bob", "cat", "dan", "eve"), ("fay",)])
        self.assertEqual(parts_in(SIX, everybody, odd=None), [("ann", "bob", "cat", "dan", "eve"), ("fay",)])
        self.assertEqual(parts_in(SIX, everybody, odd=True), [("ann", "bob", "cat", "dan", "eve"), ("fay",)])
        self.assertEqual(parts_in(SIX, everybody, odd=False), [])
        some = ("ann", "bob", "dan", "eve", "fay")
        self.assertEqual(parts_in(SIX, some), [("ann", "bob"), ("dan", "eve"), ("fay",)])
        self.assertEqual(parts_in(SIX, some, odd=False), [("ann", "bob"), ("dan", "eve")])
        self.assertEqual(parts_in(SIX, list(some), odd=True), [("fay",)])
        self.assertEqual(parts_in(SIX, ()), [])

    def test_only_households_of_the_set_lead_on(self):
        self.assertEqual(parts_in(SIX, ("ann", "cat")), [("ann",), ("cat",)])
        self.assertEqual(parts_in(SIX, ("ann", "dan", "eve")), [("ann",), ("dan", "eve")])

    def test_parts_that_lie_across(self):
        sheet = ((("a", ("d",)), ("b", ("c",)), ("c", ("b", "e")), ("d", ("a",)), ("e", ("c",))), ())
        self.assertEqual(parts_in(sheet, tuple("abcde")), [("a", "d"), ("b", "c", "e")])


class Kinds(unittest.TestCase):
    def test_all_three(self):
        path = ((("a", ("b",)), ("b", ("a", "c", "d")), ("c", ("b",)), ("d", ("b", "e")), ("e", ("d", "f")), ("f", ("e",))), ())
        self.assertEqual(kinds(path), (("a", "c", "d", "f"), ("b", "e"), ()))
        star = ((("a", ("h",)), ("b", ("h",)), ("h", ("a", "b", "y")), ("y", ("h", "z")), ("z", ("y",))), ())
        self.assertEqual(kinds(star), (("a", "b"), ("h",), ("y", "z")))
        self.assertEqual((sure_swaps(star), idle_swaps(star)), ([("y", "z")], [("h", "y")]))
        self.assertEqual([partners(star, name) for name in "abhyz"], [("h",), ("h",), ("a", "b"), ("z",), ("y",)])
        self.assertEqual([leaves(star, name) for name in "abhyz"], [(("b", "h"), ("y", "z")), (("a", "h"), ("y", "z")), None, None, None])
        self.assertEqual([is_barrier(star, some) for some in (("h",), ("h", "y"), ("y",), ("z",), ())], [True, True, True, False, True])

    def test_odd_ring(self):
        five = (tuple((name, tuple(sorted(("abcde"[at - 1], "abcdea"[at + 1])))) for at, name in enumerate("abcde")), ())
        self.assertEqual(kinds(five), (tuple("abcde"), (), ()))
        self.assertEqual(leaves(five, "a"), (("b", "c"), ("d", "e")))
        self.assertEqual((sure_swaps(five), idle_swaps(five), partners(five, "a")), ([], [], ("b", "e")))
        self.assertEqual((is_barrier(five, ()), is_barrier(five, ("a",))), (True, False))

    def test_is_barrier_of_other_things(self):
        self.assertIs(is_barrier(SIX, ()), True)
        for thing in (["bob"], [], ("zoe",), ("new",), ("bob", "bob"), ("cat", "bob"), ("bob", "zoe"), "bob", ("bob", 0), None, True):
            with self.subTest(thing=thing):
                self.assertIs(is_barrier(SIX, thing), False)
        for thing in ODD_THINGS:
            with self.subTest(thing=thing):
                self.assertIs(is_barrier(SIX, thing), False)
        self.assertIs(is_barrier(SIX, ("bob", "cat")), False)


class Wrong(unittest.TestCase):
    def test_no_household(self):
        for names, first in ((("zoe",), "zoe"), (("ann", "new"), "new"), (("ann", "bea", "zoe"), "bea"), (["bea", "cat"], "bea")):
            for at, call in enumerate((
                lambda: suiting(SIX, without=names),
                lambda: most_swaps(SIX, without=names),
                lambda: least_swaps(SIX, without=names),
                lambda: list(every_swaps(SIX, without=names)),
                lambda: parts_in(SIX, names),
                lambda: parts_in(SIX, names, odd=True),
            )):
                with self.subTest(names=names, at=at):
                    self.assertEqual(raised(call), (NoHousehold, {"name": first}))
        for name in ("zoe", "new"):
            for call in (leaves, partners):
                with self.subTest(name=name, call=call.__name__):
                    self.assertEqual(raised(lambda: call(SIX, name)), (NoHousehold, {"name": name}))
                    self.assertEqual(raised(lambda: call(NOBODY, name)), (NoHousehold, {"name": name}))

    def test_lists(self):
        six = lists(SIX)
        self.assertEqual(suiting(six, without=["cat"]), suiting(SIX, without=("cat",)))
        self.assertEqual(kinds(six), kinds(SIX))
        self.assertIs(is_barrier(six, ("bob",)), True)


if __name__ == "__main__":
    unittest.main()
