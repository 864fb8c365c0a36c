"""The examples of the document, as they are printed there."""

import unittest

from crosshomes import changes, data, days, errors, exchange, orders, plans, rings, swaps, texts, withdrawals

SHEETS = """
>>> six = ((("ann", ("bob",)), ("bob", ("ann", "cat")), ("cat", ("bob", "dan", "eve")), ("dan", ("cat", "eve")), ("eve", ("cat", "dan")), ("fay", ("cat", "new"))), ("new",))
>>> homes(six), wants_of(six, "fay"), wanted_by(six, "cat"), suited_to(six, "cat")
(('ann', 'bob', 'cat', 'dan', 'eve', 'fay', 'new'), ('cat', 'new'), ('bob', 'dan', 'eve', 'fay'), ('bob', 'dan', 'eve'))
>>> few = without(six, ("bob", "cat"))
>>> households(few), wants_of(few, "ann"), wants_of(few, "ann", idle=True), wants_of(few, "dan")
(('ann', 'dan', 'eve', 'fay'), (), ('bob',), ('eve',))
>>> wants_of(opened(few, "bob"), "ann"), is_sheet(((("ann", ("ann",)),), ())), suits(six, "fay", "cat")
(('bob',), False, False)
>>> joined_by(six, "new", ())
raises Taken(name='new')
"""

PLANS = """
>>> plan = Plan((("bob", "ann"), ""), (("fay",), "new"))
>>> plan.parts, plan("fay"), plan("new"), "new" in plan, len(plan), plan.ends, plan.left
(((('ann', 'bob'), ''), (('fay',), 'new')), 'new', None, False, 3, ('new',), ('fay',))
>>> more = Plan.of([Plan.ring("eve", "cat", "dan"), Plan.row("new", "fay")])
>>> (plan | more).text, (plan & more).text, (plan - "ann").text, (plan & more).within(plan), plan < more
('ann>bob>ann; cat>dan>eve>cat; fay>new', 'fay>new', 'fay>new', True, True)
>>> is_plan(six, plan | more), is_plan(six, Plan(Plan.ring("ann", "cat")))
(True, False)
>>> plan + more
raises Clash(name='fay')
>>> long = Plan((("ann", "bob", "cat"), "new"))
>>> (long - "bob").parts, long & Plan((("dan", "cat"), "new")) == long - "bob", left_of(long, ("ann", "cat")).parts
(((('cat',), 'new'),), True, ())
>>> Plan((("ann",), "bob")) | Plan((("bob",), "cat"))
raises Clash(name='bob')
"""

SWAPS = """
>>> suiting(six), most_swaps(six), most_swaps(six, without=("bob",)), least_swaps(six)
([('ann', 'bob'), ('bob', 'cat'), ('cat', 'dan'), ('cat', 'eve'), ('dan', 'eve')], 4, 2, (('ann', 'bob'), ('cat', 'dan')))
>>> list(every_swaps(six, without=("eve",))), list(every_swaps(six, without=("ann", "cat")))
([(('ann', 'bob'), ('cat', 'dan'))], [(('dan', 'eve'),)])
>>> kinds(six), parts_in(six, ("ann", "cat", "dan", "eve", "fay")), parts_in(six, ("ann", "bob", "dan"), odd=False)
((('ann', 'cat', 'dan', 'eve', 'fay'), ('bob',), ()), [('ann',), ('cat', 'dan', 'eve'), ('fay',)], [('ann', 'bob')])
>>> leaves(six, "cat"), leaves(six, "bob"), partners(six, "cat"), is_barrier(six, ("bob",)), is_barrier(six, ()), is_barrier(six, ("cat",))
((('ann', 'bob'), ('dan', 'eve')), None, ('bob', 'dan', 'eve'), True, True, False)
>>> kite = ((("a", ("b", "c")), ("b", ("a", "c")), ("c", ("a", "b", "d")), ("d", ("c",))), ())
>>> kinds(kite), sure_swaps(kite), idle_swaps(kite), sure_swaps(six), list(every_swaps(((), ())))
(((), (), ('a', 'b', 'c', 'd')), [('a', 'b'), ('c', 'd')], [('a', 'c'), ('b', 'c')], [], [()])
"""

ORDERS = """
>>> can_move(six, ("ann", "eve")), most_of(six, ("ann", "cat", "dan", "eve")), is_why_not(six, ("ann", "cat", "dan", "eve"), ("bob",)), is_why_not(six, ("ann", "cat", "dan", "eve"), ())
(True, 3, True, False)
>>> line = ("fay", "dan", "ann", "cat", "eve", "bob")
>>> kept(six, line), kept(six, line, first=("eve",)), pushed_out(six, line, "eve"), pushed_out(six, line, "fay"), list(walk(six, line))[:3]
(('ann', 'bob', 'cat', 'dan'), ('ann', 'bob', 'dan', 'eve'), 'cat', None, [('fay', False), ('dan', True), ('ann', True)])
>>> groups = (("ann", "cat", "dan", "eve"), ("bob", "fay"))
>>> by_classes(six, groups), sure_in(six, groups), maybe_in(six, groups), more_from(six, ("cat", "dan", "eve"), ("ann", "bob")), worth(six, (5, 1, 2, 2, 3, 9))
([3, 1], ('bob',), ('ann', 'bob', 'cat', 'dan', 'eve'), 'bob', 11)
>>> order = Order(line)
>>> order["eve"] = 0
>>> order.line, order["dan"], order.ahead(("eve",), ("ann", "dan")), kept(six, order)
(('eve', 'fay', 'dan', 'ann', 'cat', 'bob'), 2, True, ('ann', 'bob', 'dan', 'eve'))
"""

CHANGES = """
>>> gain_by_household(six, ("ann",)), gain_by_household(six, ("bob",)), gain_by_pair(six, "ann", "cat"), helping_pairs(six), fewest_pairs(six)
(2, 0, 0, [('ann', 'fay'), ('cat', 'fay'), ('dan', 'fay'), ('eve', 'fay')], 1)
>>> loss_by_household(six, "bob"), loss_by_household(six, "eve"), loss_by_pair(six, "ann", "bob"), can_leave(six, ("ann", "fay")), can_leave(six, ("cat", "dan")), most_leaving(six, ("cat", "dan", "eve"))
(2, 0, 0, True, False, 1)
>>> chain = ((("a", ("b",)), ("b", ("c",)), ("c", ())), ())
>>> gain_by_wish(chain, "c", "a"), gain_by_empty(chain, ("c",)), gain_by_empty(chain, ("a",)), loss_by_empty(six, "new"), loss_by_wish(six, "fay", "new")
(3, 3, 1, 1, 1)
"""

RINGS = """
>>> most_any(six), most_any(six, rows=False), worth_of(six, "new"), [most_rings(six, longest=many) for many in (2, 3, 4)]
(6, 5, 1, [4, 5, 5])
>>> five = (six[0], ())
>>> list(gains(six)), list(gains(five)), crowd(five), surely_moves(five), with_fewest(five, "fay"), with_fewest(six, "fay"), with_part(six, "fay")
([], [1], ('ann', 'cat', 'dan', 'eve', 'fay'), ('ann', 'bob', 'cat', 'dan', 'eve'), None, 1, (('fay',), 'new'))
>>> move_together(five, ("ann", "fay")), why_stuck(five, ("fay",)), surely_take(five)
(False, ('ann', 'bob', 'cat', 'dan', 'eve', 'fay'), [('ann', 'bob'), ('bob', 'ann')])
>>> hub = ((("a", ()), ("b", ("a",)), ("c", ("a",))), ())
>>> most_any(hub), list(gains(hub)), crowd(hub), prices_of(hub).total
(0, [2, 1], ('a', 'b', 'c'), 0)
>>> fork = ((("a", ("b",)), ("b", ("a", "c")), ("c", ("d",)), ("d", ("b",))), ())
>>> most_any(fork), kept_any(fork, ("a", "b", "c", "d")), kept_any(fork, ("c", "a", "b", "d")), may_move(fork)
(3, ('a', 'b'), ('b', 'c', 'd'), ('b', 'c', 'd'))
>>> lone = ((("a", ("b",)), ("b", ())), ())
>>> low = Prices((("a", 0), ("b", -1)), (("a", 0), ("b", 1)))
>>> are_prices(lone, low), low.total, low["b"], low("b"), len(low), are_prices(lone, Prices((("a", 0), ("b", 0)), (("a", 0), ("b", 0))))
(True, 0, -1, 1, 4, False)
"""

WITHDRAWALS = """
>>> full = Plan((("ann", "bob"), ""), (("cat", "dan", "eve"), ""), (("fay",), "new"))
>>> [safe_for(full, many) for many in (0, 1, 2, 3, 9)], worst_gone(full, 2), weak_ones(full)
([6, 3, 1, 0, 0], ('ann', 'cat'), ('cat', 'dan', 'eve'))
>>> rest_sheet(six, full, gone=("bob",)), most_repaired(six, full, gone=("bob",)), most_repaired(six, full, gone=("cat",))
(((('ann', ()),), ('fay',)), 4, 5)
>>> middle = Plan((("bob", "cat"), ""))
>>> most_repaired(six, middle, gone=()), fewest_told(six, middle, gone=()), fewest_told(six, full, gone=("cat",))
(5, 6, 1)
>>> both = ((("a", ("b",)), ("b", ("a",))), ())
>>> safest(both, 1), are_told_prices(both, Plan(), ((("a", 3), ("b", 3)), (("a", 0), ("b", 0))), gone=())
(0, True)
"""

DAYS = """
>>> calendar = Calendar((("ann", 0, 2), ("bob", 2, 5), ("cat", 1, 4), ("dan", 4, 6), ("eve", 6, 8), ("fay", 3, 9)))
>>> calendar["bob"], calendar(4, ("cat",)), calendar.meet("bob", "cat"), calendar.meet("cat", "eve"), calendar.days
((2, 5), ('bob', 'dan', 'fay'), (2, 4), None, (0, 1, 2, 3, 4, 5, 6, 8, 9))
>>> most_between(six, calendar), most_between(six, calendar, last=3), latest_start(six, calendar), earliest_end(six, calendar)
(4, 2, 4, 4)
>>> day_by_day(six, calendar, ("ann", "bob", "cat", "dan", "eve", "fay"))
[(2, ('ann', 'bob')), (4, ('cat', 'dan'))]
>>> days_for(six, calendar), are_apart(six, calendar, (("ann", "bob"), ("cat", "dan"), ("dan", "eve"))), best_day(six, calendar)
((2, 4, 6), True, (3, 3))
"""

EXCHANGE = """
>>> exchange = Exchange(six)
>>> exchange.plan().parts, exchange.order, len(exchange), exchange["fay"], "new" in exchange
(((('ann', 'bob'), ''), (('cat', 'dan'), '')), ('ann', 'bob', 'cat', 'dan', 'eve', 'fay'), 6, ('cat', 'new'), False)
>>> exchange.run(gone=("dan",)).parts, exchange.sheet[0][0], exchange.plan().parts
(((('ann', 'bob'), ''),), ('cat', ('bob', 'dan', 'eve')), ((('cat', 'dan'), ''),))
>>> exchange.attempt((("bound", None), ("run", ()), ("leave", "cat")))
raises Stopped(number=2, word='NoHousehold', value='cat')
>>> exchange.bound, exchange.undo(), len(exchange), exchange.undo()
(2, True, 6, False)
"""

TEXTS = """
>>> sheet_text(six).split("\\n")[4:]
['eve: cat dan', 'fay: cat new', '+ new']
>>> sheet_in("ann:\\nbob: ann\\n+ ann")
raises BadLine(number=2)
>>> plan_in("ann>bob>ann; fay>new") == plan, len(plan_in("-"))
(True, 0)
>>> plan_in("bob>ann>bob")
raises BadText()
"""


def steps(text):
    """The pairs of a statement, and the line that is printed behind it, None if there is none."""
    lines = text.strip().split("\n")
    for at, line in enumerate(lines):
        if line.startswith(">>> "):
            behind = lines[at + 1] if at + 1 < len(lines) else ">>> "
            yield line[4:], None if behind.startswith(">>> ") else behind


def names_to_use():
    found = {}
    for module in (data, errors, plans, swaps, orders, changes, rings, withdrawals, days, exchange, texts):
        found.update({name: value for name, value in vars(module).items() if not name.startswith("_")})
    return found


def printed(code, space):
    """What the document prints for an expression: its value, or the error with what it keeps."""
    try:
        return repr(eval(code, space))
    except (LookupError, ValueError) as error:
        kept = ", ".join(f"{name}={value!r}" for name, value in vars(error).items())
        return f"raises {error.__class__.__name__}({kept})"


class Examples(unittest.TestCase):
    def check(self, *texts):
        space = names_to_use()
        compared = 0
        for text in texts:
            for code, behind in steps(text):
                with self.subTest(code=code):
                    if behind is None:
                        exec(code, space)
                    else:
                        self.assertEqual(printed(code, space), behind)
                        compared += 1
        return compared

    def test_sheets(self):
        self.assertEqual(self.check(SHEETS), 4)

    def test_plans(self):
        self.assertEqual(self.check(SHEETS, PLANS), 4 + 6)

    def test_swaps(self):
        self.assertEqual(self.check(SHEETS, SWAPS), 4 + 5)

    def test_orders(self):
        self.assertEqual(self.check(SHEETS, ORDERS), 4 + 4)

    def test_changes(self):
        self.assertEqual(self.check(SHEETS, CHANGES), 4 + 3)

    def test_rings(self):
        self.assertEqual(self.check(SHEETS, RINGS), 4 + 6)

    def test_withdrawals(self):
        self.assertEqual(self.check(SHEETS, WITHDRAWALS), 4 + 4)

    def test_days(self):
        self.assertEqual(self.check(SHEETS, DAYS), 4 + 4)

    def test_exchange(self):
        self.assertEqual(self.check(SHEETS, EXCHANGE), 4 + 4)

    def test_texts(self):
        self.assertEqual(self.check(SHEETS, PLANS, TEXTS), 4 + 6 + 4)


if __name__ == "__main__":
    unittest.main()
