"""Exchanges beside a plain trying of all PLANs, under each bound and with each order; promise [12], guarantee (h)."""

import itertools
import random
import unittest

from crosshomes.data import households
from crosshomes.errors import Stopped
from crosshomes.exchange import Exchange
from crosshomes.orders import kept
from crosshomes.plans import is_plan
from crosshomes.rings import most_any, most_rings
from crosshomes.swaps import most_swaps
from tests.helper import all_graphs, moves_of, plain_left, random_sheets, shuffled, subsets
from tests.plain_exchange import PlainExchange, plain_next, tried

BOUNDS = (2, 3, None)


def all_sheets(many, empties):
    """Every SHEET of so many households, who want each other's homes and the empties in every way."""
    names = "abc"[:many]
    each = [subsets([home for home in (*names, *empties) if home != name]) for name in names]
    return [(tuple(zip(names, wants)), tuple(empties)) for wants in itertools.product(*each)]


def small(sheet):
    return sheet[0], sheet[1][:2]


class AllPlans(unittest.TestCase):
    def check(self, sheet, order, bound):
        exchange = Exchange(sheet, bound=bound)
        exchange.order = order
        plan = exchange.plan()
        self.assertEqual(moves_of(plan), plain_next(sheet, order, bound))
        self.assertTrue(is_plan(sheet, plan))
        return plan

    def test_all_small_sheets_and_orders(self):
        for sheet in all_sheets(3, ()) + all_sheets(2, "xy") + all_sheets(1, "x") + all_sheets(3, "x")[::7]:
            for order, bound in itertools.product(itertools.permutations(households(sheet)), BOUNDS):
                with self.subTest(sheet=sheet, order=order, bound=bound):
                    self.check(sheet, order, bound)

    def test_all_orders_of_four(self):
        for sheet in [small(one) for one in random_sheets(71, 40, 4)]:
            for order, bound in itertools.product(itertools.permutations(households(sheet)), BOUNDS):
                with self.subTest(sheet=sheet, order=order, bound=bound):
                    self.check(sheet, order, bound)

    def test_who_suits_whom(self):
        chance = random.Random(72)
        for sheet in all_graphs(5)[::5]:
            for bound in BOUNDS:
                with self.subTest(sheet=sheet, bound=bound):
                    self.check(sheet, shuffled(chance, households(sheet)), bound)

    def test_sheets_of_six(self):
        chance = random.Random(73)
        for sheet in [small(one) for one in random_sheets(73, 80, 6)]:
            for bound in BOUNDS:
                with self.subTest(sheet=sheet, bound=bound):
                    plan = self.check(sheet, shuffled(chance, households(sheet)), bound)
                    most = {2: most_swaps(sheet), 3: most_rings(sheet), None: most_any(sheet)}
                    self.assertEqual(len(plan), most[bound])

    def test_swaps_of_eight(self):
        chance = random.Random(74)
        large = [sheet for sheet in random_sheets(74, 60, 8) if len(sheet[0]) > 6]
        self.assertGreater(len(large), 8)
        for sheet in large:
            order = shuffled(chance, households(sheet))
            exchange = Exchange(sheet)
            exchange.order = order
            self.assertEqual(exchange.plan().movers, kept(sheet, order))
            self.assertTrue(all(len(names) == 2 and end == "" for names, end in exchange.plan().parts))

    def test_everybody_who_is_gone(self):
        chance = random.Random(75)
        for sheet in [small(one) for one in random_sheets(75, 40, 4)]:
            order = shuffled(chance, households(sheet))
            for gone, bound in itertools.product(subsets(households(sheet)), BOUNDS):
                exchange = Exchange(sheet, bound=bound)
                exchange.order = order
                moves = plain_left(plain_next(sheet, order, bound), gone)
                with self.subTest(sheet=sheet, order=order, bound=bound, gone=gone):
                    plan = exchange.run(gone=gone)
                    self.assertEqual((moves_of(plan), exchange.plans), (moves, (plan,)))
                    rows = tuple(row for row in sheet[0] if row[0] not in moves)
                    empties = (set(sheet[1]) - set(moves.values())) | (set(moves) - set(moves.values()))
                    self.assertEqual(exchange.sheet, (rows, tuple(sorted(empties))))
                    self.assertEqual(exchange.order, tuple(name for name in order if name not in moves))


class AllDeeds(unittest.TestCase):
    NAMES = ("ann", "bob", "cat", "dan", "eve", "x", "y", "zoe")

    def drawn_sheet(self, chance):
        names = sorted(chance.sample(self.NAMES[:5], chance.randint(0, 4)))
        rows = tuple((name, self.drawn_wants(chance, name)) for name in names)
        return rows, chance.choice(((), ("x",), ("x", "y")))

    def drawn_wants(self, chance, name):
        return tuple(one for one in self.NAMES if one != name and chance.random() < 0.5)

    def drawn_deed(self, chance, exchange):
        """A deed that can often be done."""
        names, there = self.NAMES, exchange.order
        word = chance.choice(("want", "want", "want", "leave", "offer", "close", "bound", "order", "run", "run"))
        if word == "want":
            name = chance.choice(names[:5] if len(there) < 5 or chance.random() < 0.3 else there)
            return word, name, self.drawn_wants(chance, name)
        if word == "leave":
            return word, chance.choice(there if there and chance.random() < 0.7 else names)
        if word in ("offer", "close"):
            few = len(exchange.sheet[1]) < 2
            return ("offer" if few else "close"), chance.choice(names[5:] if chance.random() < 0.7 else names)
        if word == "bound":
            return word, chance.choice((2, 3, None, None, 1, 4))
        if word == "order":
            line = shuffled(chance, there)
            return word, chance.choice((line, line, line[1:], (*line, "zoe"), (*line[:1], *line)))
        return word, tuple(name for name in (there if chance.random() < 0.8 else names) if chance.random() < 0.3)

    def check(self, exchange, plain):
        state = plain.state()
        sheet = state.sheet()
        self.assertEqual((exchange.sheet, exchange.order, exchange.bound), (sheet, tuple(state.order), state.bound))
        self.assertEqual(tuple(plan.parts for plan in exchange.plans), tuple(state.plans))
        self.assertEqual(
            (len(exchange), [name for name in self.NAMES if name in exchange]),
            (len(state.wants), sorted(state.wants)),
        )
        self.assertEqual({name: exchange[name] for name in state.wants}, state.wants)
        self.assertEqual(moves_of(exchange.plan()), state.next())

    def check_as_new(self, exchange):
        """(h): a new Exchange in the same state answers the same."""
        new = Exchange(exchange.sheet, bound=exchange.bound)
        new.order = exchange.order
        self.assertEqual(
            (new.plan(), new.sheet, new.order, new.bound),
            (exchange.plan(), exchange.sheet, exchange.order, exchange.bound),
        )
        self.assertIs(new == exchange, exchange.plans == ())
        self.assertEqual((new.run(), new.sheet, new.order), (exchange.twin().run(), *self.after_run(exchange)))

    def after_run(self, exchange):
        twin = exchange.twin()
        twin.run()
        return twin.sheet, twin.order

    def one_deed(self, exchange, deed):
        """Does a deed by its own method, and tells what it returns or the error, as an attempt of it does."""
        word, *given = deed
        calls = {
            "want": lambda: exchange.__setitem__(*given), "leave": lambda: exchange.leave(*given),
            "offer": lambda: exchange.offer(*given),
            "close": lambda: exchange.close(*given), "bound": lambda: exchange.change("bound", *given),
            "order": lambda: setattr(exchange, "order", *given), "run": lambda: exchange.run(gone=given[0]),
        }
        try:
            told = calls[word]()
        except (LookupError, ValueError) as error:
            return 0, error.__class__.__name__, next(iter(vars(error).values()), None)
        return [told if told is None else told.parts]

    def play(self, seed, steps):
        chance = random.Random(seed)
        sheet = self.drawn_sheet(chance)
        bound = chance.choice(BOUNDS)
        exchange, plain = Exchange(sheet, bound=bound), PlainExchange(sheet, bound)
        failed = 0
        for _ in range(steps):
            way = chance.random()
            if way < 0.2:
                self.assertIs(exchange.undo(), plain.undo())
            elif way < 0.3:
                self.check_twin(chance, exchange, plain)
            elif way < 0.5:
                deeds = tuple(self.drawn_deed(chance, exchange) for _ in range(chance.randint(0, 4)))
                self.assertEqual(tried(exchange, deeds), plain.attempt(deeds))
            else:
                deed = self.drawn_deed(chance, exchange)
                told = plain.attempt((deed,))
                failed += isinstance(told, tuple)
                self.assertEqual(self.one_deed(exchange, deed), told)
            self.check(exchange, plain)
        self.check_as_new(exchange)
        while plain.undo():
            self.assertIs(exchange.undo(), True)
            self.check(exchange, plain)
        self.assertIs(exchange.undo(), False)
        self.assertTrue(exchange == Exchange(sheet, bound=bound))
        return failed

    def check_twin(self, chance, exchange, plain):
        """A twin does other deeds, and undoes them and all those ahead; the first one is as it was."""
        other, plain_other = exchange.twin(), plain.twin()
        self.assertTrue(other == exchange)
        for _ in range(3):
            deed = self.drawn_deed(chance, other)
            self.assertEqual(tried(other, (deed,)), plain_other.attempt((deed,)))
            self.check(other, plain_other)
        self.check(exchange, plain)
        while plain_other.undo():
            self.assertIs(other.undo(), True)
            self.check(other, plain_other)
        self.assertIs(other.undo(), False)

    def test_many_deeds(self):
        failed = 0
        for seed in range(200):
            with self.subTest(seed=seed):
                failed += self.play(seed, 15)
        self.assertGreater(failed, 100)

    def test_stopped_whichever_deed_fails(self):
        """Each of several deeds fails once: none is done, and undo takes back what it did before."""
        deeds = [
            ("offer", "x"), ("want", "ann", ("bob", "x")), ("bound", None), ("want", "zoe", ()),
            ("order", ("zoe", "bob", "ann")), ("run", ()),
        ]
        wrong = [
            ("offer", "bob"), ("close", "zoe"), ("bound", 5), ("leave", "zed"), ("order", ()), ("run", ("zed",)),
            ("want", "y", ()),
        ]
        told = [
            ("Taken", "bob"), ("NoHome", "zoe"), ("BadBound", 5), ("NoHousehold", "zed"), ("BadOrder", None),
            ("NoHousehold", "zed"), ("Taken", "y"),
        ]
        sheet = (("ann", ()), ("bob", ("ann",))), ("y",)
        for at, (bad, (word, value)) in itertools.product(range(len(deeds)), zip(wrong, told)):
            exchange = Exchange(sheet)
            exchange["bob"] = ("ann", "y")
            before = exchange.twin()
            with self.subTest(at=at, bad=bad):
                with self.assertRaises(Stopped) as caught:
                    exchange.attempt((*deeds[:at], bad, *deeds[at:]))
                self.assertEqual((caught.exception.number, caught.exception.word, caught.exception.value), (at, word, value))
                self.assertTrue(exchange == before)
                self.assertEqual((exchange.undo(), exchange == Exchange(sheet), exchange.undo()), (True, True, False))


if __name__ == "__main__":
    unittest.main()
