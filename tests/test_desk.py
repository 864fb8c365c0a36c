"""A desk: promise [14], each request, edges and texts that are not so written."""

import unittest

from crosshomes.desk import answers
from crosshomes.errors import BadLine
from crosshomes.exchange import Exchange
from crosshomes.swaps import most_swaps
from crosshomes.texts import sheet_text
from tests.helper import CROWD, NOBODY, SIX, raised

SIX_TEXT = sheet_text(SIX)
SMALL = "ann: bob\nbob: ann\n+ new"


def asked(*requests, sheet=SIX_TEXT):
    return answers("\n".join([*([sheet] if sheet else []), "", *requests]))


class Requests(unittest.TestCase):
    def test_plan_and_run(self):
        self.assertEqual(asked("plan", "plan"), ["ann>bob>ann; cat>dan>cat"] * 2)
        self.assertEqual(asked("run", "plan", "run"), ["ann>bob>ann; cat>dan>cat", "-", "-"])
        self.assertEqual(
            asked("run without cat", "plan", "run without -", "run"),
            ["ann>bob>ann", "cat>dan>cat", "cat>dan>cat", "-"],
        )
        self.assertEqual(asked("run without ann,dan,fay", "who"), ["-", "ann,bob,cat,dan"])

    def test_want(self):
        self.assertEqual(
            asked("want ann fay", "want fay ann,cat", "want bob -", "plan"),
            ["done", "done", "done", "ann>fay>ann; cat>dan>cat"],
        )
        self.assertEqual(
            asked("want zoe ann,zed", "want ann zoe", "run without bob", "homes"),
            ["done", "done", "ann>zoe>ann; dan>eve>dan", "bob,cat,fay,new"],
        )

    def test_leave_offer_close(self):
        self.assertEqual(asked("leave cat", "homes", "offer cat", "homes", "close cat", "close new", "homes"), [
            "done", "ann,bob,dan,eve,fay,new", "done", "ann,bob,cat,dan,eve,fay,new", "done", "done",
            "ann,bob,dan,eve,fay",
        ])

    def test_bound(self):
        self.assertEqual(asked("bound 3", "plan", "bound any", "plan", "bound 2", "plan"), [
            "done", "ann>bob>ann; cat>dan>eve>cat", "done", "ann>bob>ann; cat>dan>eve>cat; fay>new", "done",
            "ann>bob>ann; cat>dan>cat",
        ])
        self.assertEqual(asked("bound any", "run", "homes"), ["done", "ann>bob>ann; cat>dan>eve>cat; fay>new", "fay"])

    def test_order(self):
        self.assertEqual(asked("order eve dan cat bob ann fay", "plan"), ["done", "bob>cat>bob; dan>eve>dan"])
        self.assertEqual(asked("order", sheet=""), ["done"])
        self.assertEqual(
            asked("order", "order ann", "leave ann", "order", sheet="ann:"),
            ["refused BadOrder", "done", "done", "done"],
        )

    def test_who_and_homes(self):
        self.assertEqual(asked("who", "homes"), ["ann,bob,cat,dan", "ann,bob,cat,dan,eve,fay,new"])
        self.assertEqual(asked("who", "homes", sheet=""), ["-", "-"])
        self.assertEqual(asked("who", "homes", sheet="+ x y"), ["-", "x,y"])
        self.assertEqual(asked("bound any", "who"), ["done", "ann,bob,cat,dan,eve,fay"])

    def test_most(self):
        self.assertEqual(
            asked("most", "most without bob", "most without -", "most without ann,bob,cat,dan,eve,fay"),
            ["4", "2", "4", "0"],
        )
        # By swaps, whatever the bound.
        self.assertEqual(asked("bound any", "most"), ["done", "4"])
        self.assertEqual(asked("most", sheet=""), ["0"])

    def test_undo(self):
        self.assertEqual(
            asked("undo", "leave ann", "bound 3", "undo", "undo", "undo", "homes"),
            ["no", "done", "done", "yes", "yes", "no", "ann,bob,cat,dan,eve,fay,new"],
        )
        self.assertEqual(
            asked("run", "undo", "run", "undo", "undo"),
            ["ann>bob>ann; cat>dan>cat", "yes", "ann>bob>ann; cat>dan>cat", "yes", "no"],
        )
        # What only asks is no deed, nor is what is refused.
        self.assertEqual(asked("offer x", "plan", "who", "homes", "most", "leave zoe", "undo", "undo"), [
            "done", "ann>bob>ann; cat>dan>cat", "ann,bob,cat,dan", "ann,bob,cat,dan,eve,fay,new,x", "4",
            "refused NoHousehold", "yes", "no",
        ])

    def test_refused(self):
        wrong = {
            "want new ann": "Taken", "leave new": "NoHousehold", "leave zoe": "NoHousehold", "offer ann": "Taken",
            "offer new": "Taken", "close ann": "NoHome", "close zoe": "NoHome",
            "order": "BadOrder", "order ann bob": "BadOrder", "order ann ann": "NoHousehold",
            "order ann bob cat dan eve fay new": "NoHousehold", "order zoe": "NoHousehold",
            "run without zoe": "NoHousehold", "run without ann,new": "NoHousehold", "most without new": "NoHousehold",
            "most without ann,zoe": "NoHousehold",
        }
        for request, word in wrong.items():
            with self.subTest(request=request):
                self.assertEqual(asked(request), [f"refused {word}"])
                told = asked("bound 3", request, "plan", "homes", "undo", "undo")
                self.assertEqual(
                    told,
                    ["done", f"refused {word}", "ann>bob>ann; cat>dan>eve>cat", "ann,bob,cat,dan,eve,fay,new", "yes", "no"],
                )

    def test_a_home_that_a_row_leaves(self):
        self.assertEqual(
            asked("bound any", "run", "offer ann", "want ann -", sheet="ann: new\n+ new"),
            ["done", "ann>new", "refused Taken", "refused Taken"],
        )


class Frames(unittest.TestCase):
    def test_nothing_behind_the_empty_line(self):
        for text in ("", SIX_TEXT + "\n", "a:\n", "+ x\n"):
            self.assertEqual(answers(text), [])
            self.assertIs(answers(text=text).__class__, list)

    def test_no_line_for_nobody(self):
        self.assertEqual(sheet_text(NOBODY), "")
        self.assertEqual(answers("\nplan\nhomes"), ["-", "-"])

    def test_without_an_empty_line(self):
        for text, number in ((SIX_TEXT, 7), ("a:", 1), ("+ x", 1), ("a:\nb:", 2)):
            self.assertEqual(raised(lambda: answers(text)), (BadLine, {"number": number}))
        # A wrong line comes first.
        for text, number in (("a:\nplan", 1), ("plan", 0), ("b:\na:\nc:", 1), ("a:\n+ a", 1), (SIX_TEXT + "\nplan", 7), (" ", 0)):
            self.assertEqual(raised(lambda: answers(text)), (BadLine, {"number": number}))

    def test_empty_lines_behind_the_one_that_parts(self):
        for text, number in (("\n", 1), ("a:\n\n", 2), ("\n\n", 1), ("a:\n\nplan\n", 3), ("a:\n\n\nplan", 2), ("\nplan\n\nplan", 2)):
            self.assertEqual(raised(lambda: answers(text)), (BadLine, {"number": number}))

    def test_lines_of_the_sheet(self):
        wrong = (
            ("b:\na:\n\nplan", 1), ("a: a\n\nplan", 0), ("a:\n+ a\n\nplan", 1), ("a:\n+ x\nb:\n\nplan", 2),
            ("a: \n\nplan", 0), ("a\n\nplan", 0), ("A:\n\nPLAN", 0),
        )
        for text, number in wrong:
            self.assertEqual(raised(lambda: answers(text)), (BadLine, {"number": number}))

    def test_requests_that_are_not_so_written(self):
        for line in (
            "Plan", "PLAN", "plan ", " plan", "plan  ", "plan -", "plan ann", "plans", "who ann", "who ", "homes -",
            "homes all", "undo 1", "undo undo", "undo ", "help", "-", ":", "ann", "ann:", "+ x", " ", "",
            "want", "want ann", "want ann ", "want ann bob cat", "want ann  bob", "want  ann bob", "want ann bob,",
            "want ann ,bob", "want ann bob,,cat", "want ann cat,bob", "want ann bob,bob",
            "want ann bob, cat", "want ann ann", "want ann ann,bob", "want ann --", "want ann -,bob", "want ann bob,-",
            "want Ann bob", "want ann Bob", "want - bob", "want ann,bob cat",
            "want abcdefghi bob", "want ann abcdefghi", "want ann ()", "want bob\tann", "want ann bob\r",
            "leave", "leave ", "leave -", "leave ann bob", "leave ann,bob", "leave Ann", "leave ann ", "leave  ann",
            "leave 1", "leave abcdefghi", "offer", "offer a b", "offer -", "offer A", "close", "close a b", "close ",
            "bound", "bound 1", "bound 4", "bound 02", "bound +2", "bound None", "bound none", "bound ANY",
            "bound any ", "bound 2 3", "bound  2", "bound 2.0", "bound -",
            "order ", "order  ann", "order ann ", "order ann  bob", "order -", "order ann,bob", "order Ann",
            "order ann 1", "order abcdefghi",
            "run ann", "run without", "run without ", "run without ann bob", "run without ann, bob",
            "run without bob,ann", "run with ann", "run  without ann", "run without ann ", "run without A", "run -",
            "run Without ann",
            "most ann", "most without", "most without ", "most without bob,ann", "most without ann,ann",
            "most without ann -", "most -", "most  ", "most with ann", "mostwithout ann",
        ):
            with self.subTest(line=line):
                self.assertEqual(raised(lambda: answers(f"{SMALL}\n\n{line}")), (BadLine, {"number": 4}))
                self.assertEqual(raised(lambda: answers(f"\nplan\n{line}\n\nplan")), (BadLine, {"number": 2}))

    def test_a_wrong_line_ahead_of_all_answers(self):
        self.assertEqual(raised(lambda: asked("leave zoe", "order", "run ann")), (BadLine, {"number": 10}))
        self.assertEqual(raised(lambda: answers("b: b\n\nrun ann")), (BadLine, {"number": 0}))

    def test_at_the_bounds(self):
        """Texts of 60 lines; 8 households and 3 empty homes who want everything, and 6 and 2 with the other bounds."""
        crowd = sheet_text(CROWD)
        requests = [
            "plan", "who", "homes", "most", "most without a,b,c,d,e,f,g", "order h g f e d c b a",
            "want a b,c,d,e,f,g,h,x,y,z", "run without b", "undo", "undo",
        ] * 5
        told = asked(*requests, sheet=crowd)
        self.assertEqual(len([*crowd.split("\n"), "", *requests]), 60)
        self.assertEqual(
            told[:10],
            ["a>b>a; c>d>c; e>f>e; g>h>g", "a,b,c,d,e,f,g,h", "a,b,c,d,e,f,g,h,x,y,z", "8", "0", "done", "done",
             "c>d>c; e>f>e; g>h>g", "yes", "yes"],
        )
        six = "\n".join(f"{name}: " + " ".join(home for home in "abcdefxy" if home != name) for name in "abcdef") + "\n+ x y"
        for bound in ("2", "3", "any"):
            told = asked(f"bound {bound}", *["plan"] * 24, *["run without a,c", "undo"] * 13, sheet=six)
            self.assertEqual((len(told), len(set(told))), (51, 4))

    def test_it_is_an_exchange_with_this_sheet(self):
        exchange = Exchange(SIX)
        self.assertEqual(asked("plan", "most"), [exchange.plan().text, str(most_swaps(SIX))])


if __name__ == "__main__":
    unittest.main()
