"""Order lists, and one thing more or less by swaps, beside a plain trying of all SWAPS: promises [7] and [8]."""

import itertools
import random
import unittest

from crosshomes.changes import (
    can_leave, fewest_pairs, gain_by_household, gain_by_pair, helping_pairs, loss_by_household, loss_by_pair, most_leaving,
)
from crosshomes.orders import (
    Order, by_classes, can_move, is_why_not, kept, maybe_in, more_from, most_of, pushed_out, sure_in, walk, why_left,
    why_not, worth,
)
from tests.helper import (
    CROWD, all_graphs, plain_kept, plain_most, plain_pairs, plain_parts, plain_swaps, random_sheets, sheet_of, shuffled, subsets,
)


def names_of(sheet):
    return tuple(name for name, _ in sheet[0])


def plain_is_reason(sheet, moved, some, thing):
    """Whether thing is a REASON for some, by the words of the document."""
    others = tuple(name for name in names_of(sheet) if name not in thing)
    odd = [part for part in plain_parts(sheet, others) if len(part) % 2 and set(part) <= set(some)]
    return len(odd) == len(thing) + len(some) - plain_most(moved, some)


def sorted_classes(chance, names):
    """CLASSES of these names, drawn, some of them bare."""
    many = chance.randint(1, 4)
    places = {name: chance.randrange(many) for name in names}
    return tuple(tuple(name for name in names if places[name] == at) for at in range(many))


def orders_by(classes):
    """All ORDERs that have each class ahead of the next one."""
    each = [list(itertools.permutations(some)) for some in classes]
    return [tuple(name for line in lines for name in line) for lines in itertools.product(*each)]


def grown(sheet, pairs):
    """The SHEET of the same households in which just these pairs suit each other."""
    return sheet_of(names_of(sheet), pairs)


def most(sheet):
    return max(len(movers) for movers in plain_swaps(sheet))


class AllTogether(unittest.TestCase):
    def check_sets(self, sheet, moved):
        for some in subsets(names_of(sheet)):
            many = plain_most(moved, some)
            self.assertEqual((most_of(sheet, some), can_move(sheet, some)), (many, many == len(some)))
            reason = why_not(sheet, some)
            if many == len(some):
                self.assertIsNone(reason)
                self.assertIs(is_why_not(sheet, some, ()), False)
            else:
                self.assertTrue(plain_is_reason(sheet, moved, some, reason))
                self.assertIs(is_why_not(sheet, some, reason), True)

    def check_reasons(self, sheet, moved, some):
        for thing in subsets(names_of(sheet)):
            right = plain_most(moved, some) < len(some) and plain_is_reason(sheet, moved, some, thing)
            self.assertIs(is_why_not(sheet, some, thing), right)

    def test_all_sheets_of_at_most_four(self):
        for many in range(5):
            for sheet in all_graphs(many):
                with self.subTest(sheet=sheet):
                    moved = plain_swaps(sheet)
                    self.check_sets(sheet, moved)
                    for some in subsets(names_of(sheet)):
                        self.check_reasons(sheet, moved, some)

    def test_many_sheets(self):
        chance = random.Random(21)
        for sheet in random_sheets(21, 150, 7):
            with self.subTest(sheet=sheet):
                moved = plain_swaps(sheet)
                self.check_sets(sheet, moved)
                for some in chance.sample(subsets(names_of(sheet)), 1):
                    self.check_reasons(sheet, moved, some)

    def test_more_from(self):
        for sheet in random_sheets(22, 60, 5):
            moved = plain_swaps(sheet)
            able = [some for some in subsets(names_of(sheet)) if plain_most(moved, some) == len(some)]
            for some, other in itertools.product(able, repeat=2):
                fitting = [name for name in other if name not in some and any({*some, name} <= movers for movers in moved)]
                self.assertEqual(more_from(sheet, some, other), min(fitting, default=None))
                if len(other) > len(some):
                    self.assertTrue(fitting)

    def test_worth(self):
        chance = random.Random(23)
        for sheet in random_sheets(23, 300, 8):
            moved = plain_swaps(sheet)
            names = names_of(sheet)
            worths = tuple(chance.choice((0, 1, 2, 3, 5, 8, 100)) for _ in names)
            by_name = dict(zip(names, worths))
            greatest = max(sum(by_name[name] for name in movers) for movers in moved)
            self.assertEqual(worth(sheet, worths), greatest)
            falling = sorted(names, key=lambda name: -by_name[name])
            self.assertEqual(sum(by_name[name] for name in kept(sheet, falling)), greatest)


class AllOrders(unittest.TestCase):
    def check(self, sheet, moved, order):
        found = plain_kept(moved, order)
        self.assertEqual((kept(sheet, order), kept(sheet, Order(order))), (found, found))
        self.assertEqual(list(walk(sheet, order)), [(name, name in found) for name in order])
        self.assertEqual(len(found), max(len(movers) for movers in moved))
        for name in order:
            reason = why_left(sheet, order, name)
            ahead = tuple(sorted(other for other in order[:order.index(name)] if other in found))
            if name in found:
                self.assertIsNone(reason)
            else:
                self.assertTrue(plain_is_reason(sheet, moved, tuple(sorted((*ahead, name))), reason))
            in_front = (name, *[other for other in order if other != name])
            then = plain_kept(moved, in_front)
            self.assertEqual(kept(sheet, order, first=(name,)), then)
            out = set(found) - set(then)
            self.assertEqual(pushed_out(sheet, order, name), min(out, default=None))
            self.assertEqual(len(out), 0 if name in found or name not in then else 1)
            self.assertEqual(set(then) - set(found), {name} if out else set())

    def test_all_orders_of_small_sheets(self):
        for many in range(5):
            for sheet in all_graphs(many)[::3]:
                moved = plain_swaps(sheet)
                for order in itertools.permutations(names_of(sheet)):
                    with self.subTest(sheet=sheet, order=order):
                        self.check(sheet, moved, order)

    def test_many_orders(self):
        chance = random.Random(24)
        for sheet in random_sheets(24, 120, 8):
            moved = plain_swaps(sheet)
            order = shuffled(chance, names_of(sheet))
            with self.subTest(sheet=sheet, order=order):
                self.check(sheet, moved, order)

    def test_first_ones(self):
        chance = random.Random(25)
        for sheet in random_sheets(25, 200, 7):
            moved = plain_swaps(sheet)
            names = names_of(sheet)
            order = shuffled(chance, names)
            first = shuffled(chance, names)[:chance.randint(0, len(names))]
            whole = (*first, *[name for name in order if name not in first])
            self.assertEqual(kept(sheet, order, first=first), plain_kept(moved, whole))

    def test_the_greatest_sheet(self):
        moved = plain_swaps(CROWD)
        self.check(CROWD, moved, tuple("hdbfacge"))

    def test_classes(self):
        chance = random.Random(26)
        for sheet in random_sheets(26, 200, 5):
            moved = plain_swaps(sheet)
            classes = sorted_classes(chance, names_of(sheet))
            with self.subTest(sheet=sheet, classes=classes):
                found = [plain_kept(moved, order) for order in orders_by(classes)]
                for one in found:
                    self.assertEqual(by_classes(sheet, classes), [len(set(one) & set(some)) for some in classes])
                sure = set.intersection(*[set(one) for one in found])
                self.assertEqual(sure_in(sheet, classes), tuple(sorted(sure)))
                self.assertEqual(maybe_in(sheet, classes), tuple(sorted({name for one in found for name in one})))


class AllChanges(unittest.TestCase):
    def check(self, sheet):
        names, pairs, now = names_of(sheet), plain_pairs(sheet), most(sheet)
        missing = [pair for pair in itertools.combinations(names, 2) if pair not in pairs]
        helping = [pair for pair in missing if most(grown(sheet, [*pairs, pair])) == now + 2]
        self.assertEqual(helping_pairs(sheet), helping)
        for one, other in itertools.permutations(names, 2):
            pair = (min(one, other), max(one, other))
            self.assertEqual(gain_by_pair(sheet, one, other), 2 if pair in helping else 0)
            rest = [left for left in pairs if left != pair]
            self.assertEqual(loss_by_pair(sheet, one, other), now - most(grown(sheet, rest)))
        for some in subsets(names):
            more = sheet_of((*names, "zz"), [*pairs, *[(name, "zz") for name in some]])
            self.assertEqual(gain_by_household(sheet, some), most(more) - now)
        able = {some: most(sheet_of([name for name in names if name not in some], plain_pairs(sheet, some))) == now for some in subsets(names)}
        for some in subsets(names):
            self.assertIs(can_leave(sheet, some), able[some])
            self.assertEqual(most_leaving(sheet, some), max(len(less) for less in subsets(some) if able[less]))
        for name in names:
            self.assertEqual(loss_by_household(sheet, name), 0 if able[(name,)] else 2)

    def test_all_sheets_of_at_most_four(self):
        for many in range(5):
            for sheet in all_graphs(many):
                with self.subTest(sheet=sheet):
                    self.check(sheet)

    def test_many_sheets(self):
        for sheet in random_sheets(27, 60, 6):
            with self.subTest(sheet=sheet):
                self.check(sheet)

    def test_fewest_pairs(self):
        for many in range(5):
            for sheet in all_graphs(many):
                pairs = plain_pairs(sheet)
                missing = [pair for pair in itertools.combinations(names_of(sheet), 2) if pair not in pairs]
                enough = [len(more) for more in subsets(missing) if most(grown(sheet, [*pairs, *more])) >= many - 1]
                self.assertEqual(fewest_pairs(sheet), min(enough))


if __name__ == "__main__":
    unittest.main()
