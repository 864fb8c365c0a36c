"""One thing more, one thing less: promise [8], ordinary inputs, edges and wrong inputs."""

import unittest

from crosshomes.changes import (
    can_leave, cap_by_empty, cap_by_wish, fewest_pairs, gain_by_empty, gain_by_household, gain_by_pair, gain_by_wish,
    helping_pairs, loss_by_empty, loss_by_household, loss_by_pair, loss_by_wish, most_leaving,
)
from crosshomes.errors import NoHome, NoHousehold
from crosshomes.rings import Prices, prices_of
from tests.helper import CROWD, KITE, LONELY, NOBODY, SIX, lists, raised, subsets

EVERYBODY = ("ann", "bob", "cat", "dan", "eve", "fay")
EIGHT = tuple("abcdefgh")
CHAIN = ((("a", ("b",)), ("b", ("c",)), ("c", ())), ())
# Every home of a household is wanted by the next one, that of the last one by nobody; x is wanted by a alone.
LADDER = (tuple((name, (other,)) for name, other in zip("abcdefgh", "xabcdefg")), ("x",))
# Nobody moves, as nobody wants the home of anybody who would leave it; e is no home.
IDLE = ((("a", ("e",)), ("b", ("a", "e"))), ("x",))


class BySwaps(unittest.TestCase):
    def test_nobody(self):
        self.assertEqual((gain_by_household(NOBODY, ()), helping_pairs(NOBODY), fewest_pairs(NOBODY)), (0, [], 0))
        self.assertEqual((can_leave(NOBODY, ()), most_leaving(NOBODY, ())), (True, 0))
        self.assertEqual((gain_by_household(SIX, ()), can_leave(SIX, ()), most_leaving(SIX, ())), (0, True, 0))

    def test_gain_by_household(self):
        self.assertEqual([gain_by_household(SIX, (name,)) for name in EVERYBODY], [2, 0, 2, 2, 2, 2])
        self.assertEqual(gain_by_household(SIX, ("bob", "fay")), 2)
        self.assertEqual(gain_by_household(SIX, EVERYBODY), 2)
        self.assertEqual([gain_by_household(KITE, (name,)) for name in "abcd"], [0] * 4)
        self.assertEqual(gain_by_household(CROWD, EIGHT), 0)
        self.assertEqual([gain_by_household(LONELY, (name,)) for name in "abcd"], [2] * 4)

    def test_gain_by_pair(self):
        self.assertEqual([gain_by_pair(SIX, "ann", other) for other in ("bob", "cat", "dan", "eve", "fay")], [0, 0, 0, 0, 2])
        self.assertEqual([gain_by_pair(SIX, one, "ann") for one in ("bob", "cat", "fay")], [0, 0, 2])
        self.assertEqual(gain_by_pair(LONELY, "d", "a"), 2)
        # Both stay in some best SWAPS, in different parts, but in none both do.
        star = ((("a", ("h",)), ("b", ("h",)), ("h", ("a", "b"))), ())
        self.assertEqual((gain_by_pair(star, "a", "b"), helping_pairs(star)), (0, []))

    def test_helping_pairs(self):
        self.assertEqual(helping_pairs(LONELY), [("a", "b"), ("a", "c"), ("a", "d"), ("b", "c"), ("b", "d"), ("c", "d")])
        self.assertEqual((helping_pairs(KITE), helping_pairs(CROWD)), ([], []))

    def test_fewest_pairs(self):
        self.assertEqual([fewest_pairs(sheet) for sheet in (SIX, KITE, LONELY, CROWD, LADDER)], [1, 0, 2, 0, 4])
        self.assertEqual(fewest_pairs(((("a", ()),), ())), 0)
        self.assertEqual(fewest_pairs(((("a", ()), ("b", ()), ("c", ())), ())), 1)

    def test_losses(self):
        self.assertEqual([loss_by_household(SIX, name) for name in EVERYBODY], [0, 2, 0, 0, 0, 0])
        self.assertEqual([loss_by_household(KITE, name) for name in "abcd"], [2] * 4)
        self.assertEqual([loss_by_household(CROWD, name) for name in "ah"], [2, 2])
        self.assertEqual((loss_by_pair(KITE, "a", "b"), loss_by_pair(KITE, "d", "c"), loss_by_pair(KITE, "c", "a")), (2, 2, 0))
        self.assertEqual((loss_by_pair(KITE, "a", "d"), loss_by_pair(SIX, "fay", "cat"), loss_by_pair(CROWD, "b", "g")), (0, 0, 0))

    def test_leaving(self):
        for some, whether in ((("ann",), True), (("bob",), False), (("ann", "cat"), False), (("cat", "fay"), True), (EVERYBODY, False)):
            self.assertIs(can_leave(SIX, some), whether)
        self.assertIs(can_leave(LONELY, tuple("abcd")), True)
        self.assertEqual([most_leaving(SIX, some) for some in (("bob",), ("ann", "fay"), EVERYBODY, ("ann", "cat", "dan", "eve"))], [0, 2, 2, 1])
        self.assertEqual((most_leaving(LONELY, tuple("abcd")), most_leaving(CROWD, EIGHT)), (4, 0))


class ByRingsAndRows(unittest.TestCase):
    def test_nobody(self):
        self.assertEqual((gain_by_empty(NOBODY, ()), loss_by_empty(((), ("x",)), "x")), (0, 0))
        self.assertEqual((gain_by_empty(SIX, ()), gain_by_empty(CHAIN, ())), (0, 0))

    def test_gain_by_wish(self):
        self.assertEqual([gain_by_wish(CHAIN, "c", home) for home in "ab"], [3, 2])
        self.assertEqual([gain_by_wish(CHAIN, "b", home) for home in "ac"], [2, 0])
        self.assertEqual(gain_by_wish(CHAIN, "a", "b"), 0)
        self.assertEqual(gain_by_wish(IDLE, "a", "b"), 2)
        self.assertEqual((gain_by_wish(IDLE, "a", "x"), gain_by_wish(IDLE, "b", "x")), (2, 1))
        self.assertEqual(gain_by_wish(SIX, "ann", "new"), 0)
        # A ring of all eight lacks its last wish.
        line = (tuple((name, (other,)) for name, other in zip("abcdefg", "bcdefgh")) + (("h", ()),), ())
        self.assertEqual((gain_by_wish(line, "h", "a"), gain_by_empty(line, ("h",))), (8, 8))

    def test_loss_by_wish(self):
        self.assertEqual([loss_by_wish(LADDER, name, home) for name, home in zip("abcdefgh", "xabcdefg")], [8, 7, 6, 5, 4, 3, 2, 1])
        self.assertEqual((loss_by_wish(LADDER, "b", "x"), loss_by_wish(CHAIN, "a", "b"), loss_by_wish(CROWD, "a", "x")), (0, 0, 0))
        self.assertEqual(loss_by_wish(SIX, "ann", "bob"), 1)

    def test_gain_by_empty(self):
        self.assertEqual([gain_by_empty(CHAIN, wanting) for wanting in (("a",), ("b",), ("c",), ("a", "c"), ("a", "b", "c"))], [1, 2, 3, 3, 3])
        self.assertEqual((gain_by_empty(SIX, EVERYBODY), gain_by_empty(CROWD, EIGHT), gain_by_empty(LADDER, ("h",))), (0, 0, 0))
        self.assertEqual((gain_by_empty((SIX[0], ()), ("fay",)), gain_by_empty(LONELY, ("c",)), gain_by_empty(LONELY, ("d",))), (1, 0, 1))

    def test_loss_by_empty(self):
        self.assertEqual((loss_by_empty(LADDER, "x"), loss_by_empty(SIX, "new"), loss_by_empty(CROWD, "y")), (8, 1, 0))
        self.assertEqual((loss_by_empty(IDLE, "x"), loss_by_empty(((("a", ("x", "y")),), ("x", "y")), "x")), (0, 0))

    def test_wishes_for_no_home_stay_idle(self):
        # The new empty home is none of those that are wished for already.
        self.assertEqual(gain_by_empty(IDLE, ("b",)), 1)
        self.assertEqual(gain_by_empty(((("a", ("x",)), ("b", ("a",))), ()), ("b",)), 1)


class Caps(unittest.TestCase):
    PRICES = Prices((("ann", 1), ("bob", -3), ("cat", 0), ("dan", 2), ("eve", 0), ("fay", 1)), (
        ("ann", 0), ("bob", 1), ("cat", 3), ("dan", 0), ("eve", 0), ("fay", 0), ("new", 2),
    ))

    def test_cap_by_wish(self):
        cases = (
            ("ann", "ann", 0), ("bob", "dan", 4), ("bob", "bob", 3), ("bob", "cat", 1), ("bob", "new", 2), ("cat", "dan", 1),
            ("cat", "bob", 0), ("cat", "cat", 0), ("dan", "new", 0), ("fay", "ann", 0), ("cat", "cat", 0), ("eve", "eve", 1),
        )
        for name, home, cap in cases:
            with self.subTest(name=name, home=home):
                self.assertEqual(cap_by_wish(SIX, self.PRICES, name, home), cap)

    def test_cap_by_empty(self):
        cases = (
            ((), 0), (("ann",), 0), (("dan",), 0), (("cat",), 1), (("bob",), 4), (("ann", "dan"), 0), (("ann", "cat", "dan"), 1),
            (("bob", "cat"), 4), (EVERYBODY, 4),
        )
        for wanting, cap in cases:
            with self.subTest(wanting=wanting):
                self.assertEqual(cap_by_empty(SIX, self.PRICES, wanting), cap)
        self.assertEqual(cap_by_empty(NOBODY, Prices((), ()), ()), 0)

    def test_no_gain_is_greater(self):
        for sheet in (SIX, CHAIN, LONELY, IDLE, LADDER):
            prices = prices_of(sheet)
            for name, _ in sheet[0]:
                for home in {*dict(sheet[0]), *sheet[1]} - {name}:
                    self.assertLessEqual(gain_by_wish(sheet, name, home), cap_by_wish(sheet, prices, name, home))
            for wanting in subsets([name for name, _ in sheet[0]]):
                self.assertLessEqual(gain_by_empty(sheet, wanting), cap_by_empty(sheet, prices, wanting))


class Wrong(unittest.TestCase):
    def check(self, error, kept, *calls):
        for at, call in enumerate(calls):
            with self.subTest(kept=kept, at=at):
                self.assertEqual(raised(call), (error, kept))

    def test_sets(self):
        for names, first in ((("zoe",), "zoe"), (("ann", "new"), "new"), (("ann", "bea", "zoe"), "bea"), (["bea", "cat"], "bea")):
            self.check(
                NoHousehold, {"name": first},
                lambda: gain_by_household(SIX, names), lambda: can_leave(SIX, names), lambda: most_leaving(SIX, names),
                lambda: gain_by_empty(SIX, names), lambda: cap_by_empty(SIX, Caps.PRICES, names),
                lambda: cap_by_empty(lists(SIX), Caps.PRICES, names),
            )

    def test_names(self):
        for name in ("zoe", "new"):
            self.check(
                NoHousehold, {"name": name},
                lambda: gain_by_pair(SIX, name, "ann"), lambda: gain_by_pair(SIX, "ann", name), lambda: gain_by_pair(SIX, name, "bea"),
                lambda: loss_by_pair(SIX, name, "ann"), lambda: loss_by_pair(SIX, "ann", name), lambda: loss_by_pair(SIX, name, "bea"),
                lambda: loss_by_household(SIX, name), lambda: loss_by_household(NOBODY, name),
            )

    def test_household_ahead_of_home(self):
        for name, home in (("zoe", "nowhere"), ("zoe", "ann"), ("new", "new"), ("zoe", "zoe")):
            self.check(
                NoHousehold, {"name": name},
                lambda: gain_by_wish(SIX, name, home), lambda: loss_by_wish(SIX, name, home),
                lambda: cap_by_wish(SIX, Caps.PRICES, name, home),
            )

    def test_no_home(self):
        sheet = ((("ann", ("bob", "old")), ("bob", ())), ("new",))
        prices = Prices((("ann", 0), ("bob", 0)), (("ann", 0), ("bob", 0), ("new", 0)))
        for home in ("old", "zoe"):
            self.check(
                NoHome, {"home": home},
                lambda: gain_by_wish(sheet, "ann", home), lambda: loss_by_wish(sheet, "ann", home),
                lambda: cap_by_wish(sheet, prices, "ann", home), lambda: loss_by_empty(sheet, home),
            )
        self.check(NoHome, {"home": "ann"}, lambda: gain_by_wish(sheet, "ann", "ann"), lambda: loss_by_wish(sheet, "ann", "ann"))
        self.check(NoHome, {"home": "bob"}, lambda: loss_by_empty(sheet, "bob"), lambda: gain_by_wish(sheet, "bob", "bob"))
        self.assertEqual(cap_by_wish(sheet, prices, "ann", "ann"), 1)
        # What the SHEET has is asked for, not what the Prices have numbers for.
        more = Prices((("ann", 0), ("bob", 0), ("old", 0)), (("ann", 0), ("bob", 0), ("new", 0), ("old", 0)))
        self.check(NoHome, {"home": "old"}, lambda: cap_by_wish(sheet, more, "ann", "old"))
        self.check(NoHousehold, {"name": "old"}, lambda: cap_by_wish(sheet, more, "old", "ann"), lambda: cap_by_empty(sheet, more, ("ann", "old")))
        self.check(NoHome, {"home": "x"}, lambda: loss_by_empty(NOBODY, "x"))


if __name__ == "__main__":
    unittest.main()
