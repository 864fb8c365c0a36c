"""The examples of the document, as they are printed there."""

import unittest

from crosshomes import data, errors, plans, swaps

SHEETS = """
>>> six = ((("ann", ("bob",)), ("bob", ("ann", "cat")), ("cat", ("bob", "dan", "eve")), ("dan", ("cat", "eve")), ("eve", ("cat", "dan")), ("fay", ("cat", "new"))), ("new",))
>>> homes(six), wants_of(six, "fay"), wanted_by(six, "cat"), suited_to(six, "cat")
(('ann', 'bob', 'cat', 'dan', 'eve', 'fay', 'new'), ('cat', 'new'), ('bob', 'dan', 'eve', 'fay'), ('bob', 'dan', 'eve'))
>>> few = without(six, ("bob", "cat"))
>>> households(few), wants_of(few, "ann"), wants_of(few, "ann", idle=True), wants_of(few, "dan")
(('ann', 'dan', 'eve', 'fay'), (), ('bob',), ('eve',))
>>> wants_of(opened(few, "bob"), "ann"), is_sheet(((("ann", ("ann",)),), ())), suits(six, "fay", "cat")
(('bob',), False, False)
>>> joined_by(six, "new", ())
raises Taken(name='new')
"""

PLANS = """
>>> plan = Plan((("bob", "ann"), ""), (("fay",), "new"))
>>> plan.parts, plan("fay"), plan("new"), "new" in plan, len(plan), plan.ends, plan.left
(((('ann', 'bob'), ''), (('fay',), 'new')), 'new', None, False, 3, ('new',), ('fay',))
>>> more = Plan.of([Plan.ring("eve", "cat", "dan"), Plan.row("new", "fay")])
>>> (plan | more).text, (plan & more).text, (plan - "ann").text, (plan & more).within(plan), plan < more
('ann>bob>ann; cat>dan>eve>cat; fay>new', 'fay>new', 'fay>new', True, True)
>>> is_plan(six, plan | more), is_plan(six, Plan(Plan.ring("ann", "cat")))
(True, False)
>>> plan + more
raises Clash(name='fay')
>>> long = Plan((("ann", "bob", "cat"), "new"))
>>> (long - "bob").parts, long & Plan((("dan", "cat"), "new")) == long - "bob", left_of(long, ("ann", "cat")).parts
(((('cat',), 'new'),), True, ())
>>> Plan((("ann",), "bob")) | Plan((("bob",), "cat"))
raises Clash(name='bob')
"""

SWAPS = """
>>> suiting(six), most_swaps(six), most_swaps(six, without=("bob",)), least_swaps(six)
([('ann', 'bob'), ('bob', 'cat'), ('cat', 'dan'), ('cat', 'eve'), ('dan', 'eve')], 4, 2, (('ann', 'bob'), ('cat', 'dan')))
>>> list(every_swaps(six, without=("eve",))), list(every_swaps(six, without=("ann", "cat")))
([(('ann', 'bob'), ('cat', 'dan'))], [(('dan', 'eve'),)])
>>> kinds(six), parts_in(six, ("ann", "cat", "dan", "eve", "fay")), parts_in(six, ("ann", "bob", "dan"), odd=False)
((('ann', 'cat', 'dan', 'eve', 'fay'), ('bob',), ()), [('ann',), ('cat', 'dan', 'eve'), ('fay',)], [('ann', 'bob')])
>>> leaves(six, "cat"), leaves(six, "bob"), partners(six, "cat"), is_barrier(six, ("bob",)), is_barrier(six, ()), is_barrier(six, ("cat",))
((('ann', 'bob'), ('dan', 'eve')), None, ('bob', 'dan', 'eve'), True, True, False)
>>> kite = ((("a", ("b", "c")), ("b", ("a", "c")), ("c", ("a", "b", "d")), ("d", ("c",))), ())
>>> kinds(kite), sure_swaps(kite), idle_swaps(kite), sure_swaps(six), list(every_swaps(((), ())))
(((), (), ('a', 'b', 'c', 'd')), [('a', 'b'), ('c', 'd')], [('a', 'c'), ('b', 'c')], [], [()])
"""


def steps(text):
    """The pairs of a statement, and the line that is printed behind it, None if there is none."""
    lines = text.strip().split("\n")
    for at, line in enumerate(lines):
        if line.startswith(">>> "):
            behind = lines[at + 1] if at + 1 < len(lines) else ">>> "
            yield line[4:], None if behind.startswith(">>> ") else behind


def names_to_use():
    found = {}
    for module in (data, errors, plans, swaps):
        found.update({name: value for name, value in vars(module).items() if not name.startswith("_")})
    return found


def printed(code, space):
    """What the document prints for an expression: its value, or the error with what it keeps."""
    try:
        return repr(eval(code, space))
    except (LookupError, ValueError) as error:
        kept = ", ".join(f"{name}={value!r}" for name, value in vars(error).items())
        return f"raises {error.__class__.__name__}({kept})"


class Examples(unittest.TestCase):
    def check(self, *texts):
        space = names_to_use()
        compared = 0
        for text in texts:
            for code, behind in steps(text):
                with self.subTest(code=code):
                    if behind is None:
                        exec(code, space)
                    else:
                        self.assertEqual(printed(code, space), behind)
                        compared += 1
        return compared

    def test_sheets(self):
        self.assertEqual(self.check(SHEETS), 4)

    def test_plans(self):
        self.assertEqual(self.check(SHEETS, PLANS), 4 + 6)

    def test_swaps(self):
        self.assertEqual(self.check(SHEETS, SWAPS), 4 + 5)


if __name__ == "__main__":
    unittest.main()
