"""Sheets: promise [4]."""

import unittest

from crosshomes.data import (
    homes, households, is_sheet, joined_by, opened, suited_to, suits, wanted_by, wants_of, without,
)
from crosshomes.errors import NoHome, NoHousehold, Taken
from tests.helper import CROWD, KITE, LONELY, NOBODY, ODD_THINGS, SIX, lists, raised, random_sheets


class IsSheet(unittest.TestCase):
    def test_sheets(self):
        many = tuple((name, ()) for name in sorted(a + b for a in "abcdefgh" for b in "abcdefgh"))
        for sheet in (SIX, KITE, NOBODY, LONELY, CROWD, ((), ("a", "b")), (many, ()), ((), ("a", "b", "c", "d", "e"))):
            with self.subTest(sheet=sheet):
                self.assertIs(is_sheet(sheet), True)

    def test_names(self):
        for name in ("a", "z", "abcdefgh", "zzzzzzzz"):
            self.assertIs(is_sheet((((name, ()),), ())), True)
            self.assertIs(is_sheet(((), (name,))), True)
            self.assertIs(is_sheet(((("b", (name,)),), ())), True)
        for name in ("", "abcdefghi", "A", "aB", "a b", "a1", "a\n", "`", "{", "\u00e9", "\u0430", "a-", 0, None, ("a",), ["a"]):
            with self.subTest(name=name):
                self.assertIs(is_sheet((((name, ()),), ())), False)
                self.assertIs(is_sheet(((), (name,))), False)
                self.assertIs(is_sheet(((("b", (name,)),), ())), False)

    def test_other_things(self):
        for thing in ODD_THINGS:
            with self.subTest(thing=thing):
                self.assertIs(is_sheet(thing), False)

    def test_lists_are_none(self):
        row = ("a", ("b",))
        self.assertIs(is_sheet(((row,), ("c",))), True)
        for thing in ([(row,), ("c",)], ([row], ("c",)), ((["a", ("b",)],), ("c",)), ((("a", ["b"]),), ("c",)), ((row,), ["c"])):
            with self.subTest(thing=thing):
                self.assertIs(is_sheet(thing), False)

    def test_wrong_rows(self):
        wrong = (
            (("b", ()), ("a", ())),
            (("a", ()), ("a", ())),
            (("a", ()), ("a", ("b",))),
            (("a", ("a",)),),
            (("a", ("c", "b")),),
            (("a", ("b", "b")),),
            (("a", ("b", "c", "b")),),
            (("a",),),
            (("a", (), ()),),
            ("ab",),
            (("a", "b"),),
            (("a", None),),
            ((),),
            "ab",
            None,
        )
        for rows in wrong:
            with self.subTest(rows=rows):
                self.assertIs(is_sheet((rows, ())), False)

    def test_wrong_empties(self):
        for empties in (("c", "b"), ("b", "b"), ("a",), ("a", "b"), ("b", "z", "a"), "b", None, (("b",),), ("B",)):
            with self.subTest(empties=empties):
                self.assertIs(is_sheet(((("a", ()),), empties)), False)

    def test_wrong_pairs(self):
        for thing in (((),), ((), (), ()), SIX[0], (SIX,), (*SIX, ())):
            with self.subTest(thing=thing):
                self.assertIs(is_sheet(thing), False)


class Reading(unittest.TestCase):
    def test_nobody(self):
        self.assertEqual((households(NOBODY), homes(NOBODY)), ((), ()))
        self.assertEqual((households(((), ("b", "c"))), homes(((), ("b", "c")))), ((), ("b", "c")))

    def test_households_and_homes(self):
        self.assertEqual(households(SIX), ("ann", "bob", "cat", "dan", "eve", "fay"))
        self.assertEqual(homes(((("b", ()), ("d", ())), ("a", "c", "e"))), ("a", "b", "c", "d", "e"))

    def test_wishes_that_count_for_nothing(self):
        sheet = ((("a", ("b", "gone", "x")), ("b", ("gone",))), ("x",))
        self.assertEqual((wants_of(sheet, "a"), wants_of(sheet, "b")), (("b", "x"), ()))
        self.assertEqual((wants_of(sheet, "a", idle=False), wants_of(sheet, "a", idle=True)), (("b", "x"), ("b", "gone", "x")))
        self.assertEqual(wants_of(opened(sheet, "gone"), "a"), ("b", "gone", "x"))
        self.assertEqual(wants_of(joined_by(sheet, "gone", ()), "b"), ("gone",))

    def test_wanted_by(self):
        self.assertEqual((wanted_by(SIX, "new"), wanted_by(SIX, "fay"), wanted_by(SIX, "ann")), (("fay",), (), ("bob",)))
        self.assertEqual(wanted_by(CROWD, "y"), tuple("abcdefgh"))

    def test_suits(self):
        self.assertIs(suits(SIX, "ann", "bob"), True)
        self.assertIs(suits(SIX, "bob", "ann"), True)
        self.assertIs(suits(SIX, "cat", "fay"), False)
        self.assertIs(suits(SIX, "ann", "cat"), False)
        for name in households(SIX):
            self.assertIs(suits(SIX, name, name), False)

    def test_suited_to(self):
        self.assertEqual(suited_to(SIX, "fay"), ())
        self.assertEqual([suited_to(LONELY, name) for name in "abcd"], [()] * 4)
        self.assertEqual(suited_to(CROWD, "d"), tuple("abcefgh"))

    def test_as_the_words_say(self):
        for sheet in random_sheets(4, 200, 8):
            rows, empties = sheet
            wants = dict(rows)
            self.assertTrue(is_sheet(sheet))
            self.assertEqual(households(sheet), tuple(sorted(wants)))
            self.assertEqual(homes(sheet), tuple(sorted([*wants, *empties])))
            for home in homes(sheet):
                self.assertEqual(wanted_by(sheet, home), tuple(name for name in sorted(wants) if home in wants[name]))
            for name in wants:
                self.assertEqual(wants_of(sheet, name, idle=True), wants[name])
                self.assertEqual(wants_of(sheet, name), tuple(home for home in wants[name] if home in homes(sheet)))
                mates = tuple(other for other in sorted(wants) if other in wants[name] and name in wants[other])
                self.assertEqual(suited_to(sheet, name), mates)
                for other in wants:
                    self.assertIs(suits(sheet, name, other), other in mates)


class Changed(unittest.TestCase):
    def test_without(self):
        self.assertEqual(without(SIX, ()), SIX)
        self.assertEqual(without(SIX, households(SIX)), ((), ("new",)))
        self.assertEqual(without(KITE, ("a", "d")), ((("b", ("a", "c")), ("c", ("a", "b", "d"))), ()))
        self.assertEqual(homes(without(SIX, ("ann",))), ("bob", "cat", "dan", "eve", "fay", "new"))
        self.assertEqual(wants_of(without(SIX, ("ann",)), "bob"), ("cat",))

    def test_joined_by(self):
        self.assertEqual(joined_by(NOBODY, "a", ()), ((("a", ()),), ()))
        self.assertEqual(joined_by(NOBODY, "a", ("b", "c")), ((("a", ("b", "c")),), ()))
        joined = joined_by(SIX, "bea", ("ann", "zoe"))
        self.assertEqual(joined, ((SIX[0][0], ("bea", ("ann", "zoe")), *SIX[0][1:]), ("new",)))
        self.assertTrue(is_sheet(joined))
        self.assertTrue(is_sheet(joined_by(SIX, "zoe", ())))
        self.assertEqual(without(joined, ("bea",)), SIX)

    def test_opened(self):
        self.assertEqual(opened(NOBODY, "a"), ((), ("a",)))
        self.assertEqual(opened(SIX, "big"), (SIX[0], ("big", "new")))
        self.assertEqual(opened(SIX, "zoo"), (SIX[0], ("new", "zoo")))
        self.assertTrue(is_sheet(opened(opened(SIX, "zoo"), "big")))

    def test_lists_give_tuples(self):
        six = lists(SIX)
        self.assertEqual(without(six, ["ann"]), without(SIX, ("ann",)))
        self.assertEqual(joined_by(six, "bea", ["ann"]), joined_by(SIX, "bea", ("ann",)))
        self.assertEqual(opened(six, "big"), opened(SIX, "big"))
        for sheet in (without(six, []), joined_by(six, "bea", ["ann"]), opened(six, "big")):
            self.assertTrue(is_sheet(sheet))
        self.assertEqual((households(six), homes(six)), (households(SIX), homes(SIX)))
        self.assertEqual(wants_of(six, "cat", idle=True), ("bob", "dan", "eve"))


class Wrong(unittest.TestCase):
    def check(self, error, kept, *calls):
        for at, call in enumerate(calls):
            with self.subTest(at=at):
                self.assertEqual(raised(call), (error, kept))

    def test_no_household(self):
        for name in ("zoe", "new"):
            self.check(
                NoHousehold, {"name": name},
                lambda: wants_of(SIX, name),
                lambda: wants_of(SIX, name, idle=True),
                lambda: suited_to(SIX, name),
                lambda: suits(SIX, name, "ann"),
                lambda: suits(SIX, "ann", name),
                lambda: suits(SIX, name, name),
                lambda: suits(SIX, name, "who"),
                lambda: without(SIX, (name,)),
                lambda: without(SIX, ("ann", name)),
                lambda: without(SIX, (name, "zzz")),
            )

    def test_the_first_of_several(self):
        self.check(NoHousehold, {"name": "bea"}, lambda: without(SIX, ("ann", "bea", "bob", "new", "zoe")))
        self.check(NoHousehold, {"name": "zoe"}, lambda: suits(SIX, "zoe", "bea"))
        self.check(NoHousehold, {"name": "ann"}, lambda: wants_of(NOBODY, "ann"), lambda: without(NOBODY, ["ann"]))

    def test_no_home(self):
        self.check(NoHome, {"home": "zoe"}, lambda: wanted_by(SIX, "zoe"), lambda: wanted_by(NOBODY, "zoe"))
        # Wanted, but no home any longer.
        self.check(NoHome, {"home": "bob"}, lambda: wanted_by(without(SIX, ("bob",)), "bob"))

    def test_taken(self):
        for name in ("ann", "fay", "new"):
            self.check(Taken, {"name": name}, lambda: joined_by(SIX, name, ()), lambda: opened(SIX, name))
        self.assertIsNone(raised(lambda: joined_by(without(SIX, ("ann",)), "ann", ())))


if __name__ == "__main__":
    unittest.main()
