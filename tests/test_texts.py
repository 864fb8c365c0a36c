"""Texts: promise [13], ordinary texts, edges and wrong ones."""

import unittest

from crosshomes.data import is_sheet
from crosshomes.errors import BadLine, BadText
from crosshomes.exchange import Exchange
from crosshomes.plans import Plan
from crosshomes.texts import plan_in, sheet_in, sheet_text
from tests.helper import CROWD, KITE, LONELY, NOBODY, SIX, lists, raised, random_sheets

SIX_TEXT = "ann: bob\nbob: ann cat\ncat: bob dan eve\ndan: cat eve\neve: cat dan\nfay: cat new\n+ new"


class SheetTexts(unittest.TestCase):
    def test_sheet_text(self):
        self.assertEqual(sheet_text(SIX), SIX_TEXT)
        self.assertEqual(sheet_text(KITE), "a: b c\nb: a c\nc: a b d\nd: c")
        self.assertEqual(sheet_text(LONELY), "a: b x\nb: c\nc: e\nd:\n+ e")
        self.assertEqual(sheet_text((SIX[0], ("new", "old"))), SIX_TEXT + " old")
        self.assertEqual(sheet_text(((), ("x", "y"))), "+ x y")
        self.assertEqual(sheet_text(((("a", ()),), ())), "a:")
        self.assertEqual((sheet_text(NOBODY), sheet_text([[], []]), sheet_text(lists(SIX))), ("", "", SIX_TEXT))

    def test_sheet_in(self):
        self.assertEqual(sheet_in(SIX_TEXT), SIX)
        self.assertEqual(
            (sheet_in(""), sheet_in("+ x"), sheet_in("a:"), sheet_in("a:\nb:")),
            (NOBODY, ((), ("x",)), ((("a", ()),), ()), ((("a", ()), ("b", ())), ())),
        )
        self.assertEqual(sheet_in(text="abcdefgh: zzzzzzzz\n+ a zzzzzzzz"), ((("abcdefgh", ("zzzzzzzz",)),), ("a", "zzzzzzzz")))

    def test_told_and_read_again(self):
        for sheet in (NOBODY, SIX, KITE, LONELY, CROWD, *random_sheets(81, 200, 8)):
            with self.subTest(sheet=sheet):
                self.assertEqual(sheet_in(sheet_text(sheet)), sheet)
                self.assertTrue(is_sheet(sheet_in(sheet_text(lists(sheet)))))

    def test_long_texts(self):
        names = [one + other for one in "abcdefg" for other in "abcdefghi"][:59]
        sheet = (tuple((name, tuple(other for other in names[::3][:20] if other != name)) for name in names), ("x", "y", "z"))
        text = sheet_text(sheet)
        self.assertEqual((len(text.split("\n")), sheet_in(text)), (60, sheet))
        self.assertEqual(raised(lambda: sheet_in(text + "\nzz:")), (BadLine, {"number": 60}))

    def check_wrong(self, text, number):
        with self.subTest(text=text):
            self.assertEqual(raised(lambda: sheet_in(text)), (BadLine, {"number": number}))

    def test_lines_that_are_not_so_written(self):
        for line in (
            " ", "  ", "a", "a ", "a:b", "a :", "a: ", " a:", "a:  b", "a: b ", "a: b  c", "a:\tb", "a: b\t", "a: b,c",
            "A:", "a: B", "abcdefghi:", "a: abcdefghi",
            ":", ": a", "a::", "a:: b", "a: b:", "a: b: c", "1:", "a: 1", "a: -", "-", "+", "+ ", " +", "+a", "+  a",
            "+ a ", "+ A", "+ a,b", "+ +", "+: a", "++ a", "a: +",
            "a: b\r", "\r", "\ta:", "a: \u00e9", "\u00e9:", "a:\u00a0b", "a: b\u2028c:", "a: b\x0bc:", "a: b\x0cc:",
            "a: b\x1cc:", "a: \u03b1", "a%:", "plan", "a: {}", "a:b:",
        ):
            self.check_wrong(line, 0)
            self.check_wrong(f"aa:\n{line}", 1)
            self.check_wrong(f"aa: bb\nab:\n{line}\nA", 2)

    def test_empty_lines(self):
        wrong = (
            ("\n", 0), ("\n\n", 0), ("a:\n", 1), ("\na:", 0), ("a:\n\nb:", 1), ("a:\n\n+ x", 1), ("a:\n+ x\n", 2),
            ("+ x\n", 1), (SIX_TEXT + "\n", 7),
        )
        for text, number in wrong:
            self.check_wrong(text, number)
        lines = SIX_TEXT.split("\n")
        for at in range(8):
            self.check_wrong("\n".join([*lines[:at], "", *lines[at:]]), at)

    def test_lines_that_cannot_stand_there(self):
        for text, number in (
            ("b:\na:", 1), ("a:\na:", 1), ("a:\nb:\na:", 2), ("a:\nc:\nb:\na:", 2), ("ab:\na:", 1), ("a: c b", 0),
            ("a: b b", 0), ("a: b c c", 0), ("a: a", 0), ("b: a b", 0),
            ("a: b\nb: b", 1), ("+ b a", 0), ("+ a a", 0), ("+ a\n+ b", 1), ("+ a\nb:", 1), ("+ a\nA", 1),
            ("a:\n+ a", 1), ("a:\nb:\n+ b", 2), ("ann:\nbob: ann\n+ ann", 2),
            ("a:\n+ b a", 1), ("a:\n+ b\nc:", 2), ("a:\n+ b\n+ c", 2), ("a: b c\nb: c a", 1), ("+ x\n+", 1),
            ("b:\na: a", 1),
        ):
            self.check_wrong(text, number)

    def test_the_first_wrong_line(self):
        self.check_wrong("a: A\nb: b\n", 0)
        self.check_wrong("a:\nb: b\nA:", 1)
        self.check_wrong("a:\nb:\n+ b\nA", 2)
        self.check_wrong("a:\n+ x\nb: b\nA:", 2)

    def test_wishes_for_what_is_no_home(self):
        self.assertEqual(sheet_in("a: b zoe\n+ x"), ((("a", ("b", "zoe")),), ("x",)))


class PlanTexts(unittest.TestCase):
    TEXTS = (
        ("-", ()), ("a>b>a", ((("a", "b"), ""),)), ("a>b", ((("a",), "b"),)), ("b>a", ((("b",), "a"),)),
        ("ann>bob>ann; fay>new", ((("ann", "bob"), ""), (("fay",), "new"))),
        ("b>a>c", ((("b", "a"), "c"),)), ("a>c>b>a", ((("a", "c", "b"), ""),)),
        ("a>b>a; c>d>c; e>f; g>h", ((("a", "b"), ""), (("c", "d"), ""), (("e",), "f"), (("g",), "h"))),
        ("abcdefgh>z", ((("abcdefgh",), "z"),)), ("b>a; c>d", ((("b",), "a"), (("c",), "d"))),
    )

    def test_plan_in(self):
        for text, parts in self.TEXTS:
            with self.subTest(text=text):
                self.assertEqual((plan_in(text).parts, Plan(*parts).text), (parts, text))
                self.assertEqual(plan_in(text=text), Plan.of(lists(parts)))
        self.assertIs(plan_in("-").__class__, Plan)

    def test_told_and_read_again(self):
        for sheet in random_sheets(82, 100, 6):
            for bound in (2, 3, None):
                plan = Exchange((sheet[0], sheet[1][:2]), bound=bound).plan()
                self.assertEqual(plan_in(plan.text), plan)

    def test_there_is_none(self):
        for text in (
            "", " ", "--", " -", "- ", "-; -", "a", "a>", ">a", ">", ">>", "a>a", "a>b>", "a>b>c>", ">a>b", "a>>b",
            "b>a>b", "c>a>b>c", "a>b>b", "a>b>b>a", "a>b>a>b>a", "a>a>b", "a>b>c>b",
            "a>b>a>c", "a>b; a>c", "a>b; c>b", "a>b; b>c", "a>b>a; a>c", "a>b>a; c>a", "b>c; a>d", "c>d>c; a>b>a",
            "a>b;c>d", "a>b;  c>d", "a>b ; c>d", "a>b; ", "; a>b", "a>b; -", "-; a>b",
            "a>b; c>d;", "a> b", "a >b", " a>b", "a>b ", "A>b", "a>B", "a>b1", "abcdefghi>a", "a>abcdefghi", "a>b\n",
            "\na>b", "a>b\nc>d", "a>b>a; c", "a>b; c", "a,b", "a>-", "->a", "ann: bob",
            "a>b>a; a>b>a", "a>b; a>b", "\u00e9>a", "a>\u00e9", "a>b\r", "None", "a-b", "a>b>a;\tc>d",
        ):
            with self.subTest(text=text):
                self.assertEqual(raised(lambda: plan_in(text)), (BadText, {}))


if __name__ == "__main__":
    unittest.main()
