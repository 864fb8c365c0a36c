"""What several tests need: SHEETs, values of all kinds, and a plain trying of all possibilities."""

import itertools
import random

from crosshomes.plans import Plan
from crosshomes.rings import Prices

SIX = (
    (
        ("ann", ("bob",)),
        ("bob", ("ann", "cat")),
        ("cat", ("bob", "dan", "eve")),
        ("dan", ("cat", "eve")),
        ("eve", ("cat", "dan")),
        ("fay", ("cat", "new")),
    ),
    ("new",),
)
KITE = ((("a", ("b", "c")), ("b", ("a", "c")), ("c", ("a", "b", "d")), ("d", ("c",))), ())
NOBODY = ((), ())
# Nobody suits anybody: wishes of one side alone, for an empty home and for what is no home.
LONELY = ((("a", ("b", "x")), ("b", ("c",)), ("c", ("e",)), ("d", ())), ("e",))
# 8 households who want each other, and 3 empty homes: the greatest SHEET.
CROWD = (
    tuple((name, tuple(other for other in "abcdefghxyz" if other != name)) for name in "abcdefgh"),
    ("x", "y", "z"),
)


def nested(depth):
    value = ()
    for _ in range(depth):
        value = (value,)
    return value


PRICES = Prices((("a", 0),), (("a", 0),))
# Values that are no SHEET, no PART and no set of NAMEs, of each kind that a `thing` may have.
ODD_THINGS = (
    0, 1, -1, 10 ** 30, True, False, None, "", "ann", "Ann", "ab c", [], [[]], [(), ()], [0], (0,), (None,), (True,),
    (((),),), ("", ""), (("",), ""), ((), (), ()), nested(12), [nested(11)], Plan(), Plan(Plan.ring("a", "b")),
    (Plan(), ()), ((), Plan()), ((Plan(),), ()), ((), (Plan(),)), (Plan(),), ((Plan(), ()),), (("a", Plan()),),
    (("a",), Plan()), ((("a", Plan()),), ()), (("a",), 0), (("a",), None), (("a",), True), (("a",), ("b",)),
    ((["a"],), ()), ((0,), ()), (0, ()), ((), 0), ((), None), ({}.get("a"), "a"),
    PRICES, Prices((), ()), (PRICES,), [PRICES], (PRICES, ()), ((), PRICES), (PRICES, ""), ((PRICES,), ()), ((PRICES, "b"), ""),
    ((("a", PRICES),), ()), ((("a", (PRICES,)),), ()), (("a",), PRICES), (("a", PRICES), ""), ("a", PRICES),
)


def lists(value):
    """The same value with lists for tuples, at every depth."""
    if isinstance(value, (list, tuple)):
        return [lists(one) for one in value]
    return value


def raised(call):
    """The class and the attributes of the error that a call raises."""
    try:
        call()
    except Exception as error:
        return error.__class__, vars(error)
    return None


def subsets(names):
    return [chosen for many in range(len(names) + 1) for chosen in itertools.combinations(names, many)]


def sheet_of(names, pairs):
    """The SHEET of these households in which just these pairs suit each other."""
    wants = {name: [] for name in names}
    for one, other in pairs:
        wants[one].append(other)
        wants[other].append(one)
    return tuple((name, tuple(sorted(wants[name]))) for name in names), ()


def all_graphs(many):
    """Every SHEET of so many households by who suits whom."""
    names = "abcdefgh"[:many]
    return [sheet_of(names, pairs) for pairs in subsets(list(itertools.combinations(names, 2)))]


def random_sheets(seed, count, most):
    """SHEETs of at most so many households and 3 empty homes, with wishes for what is no home, too."""
    chance = random.Random(seed)
    found = []
    for _ in range(count):
        names = sorted(chance.sample("abcdefghijkl", chance.randint(0, most)))
        free = [name for name in "mnopqr" if chance.random() < 0.5]
        empties = tuple(sorted(free[:3]))
        part = chance.choice((0.2, 0.4, 0.6, 0.8))
        wishes = sorted([*names, *empties, "gone", "nohome"])
        rows = []
        for name in names:
            rows.append((name, tuple(one for one in wishes if one != name and chance.random() < part)))
        found.append((tuple(rows), empties))
    return found


def plain_pairs(sheet, without=()):
    """All pairs that suit each other, by the words of the document."""
    wants = {name: wanted for name, wanted in sheet[0] if name not in without}
    return [(a, b) for a, b in itertools.combinations(sorted(wants), 2) if b in wants[a] and a in wants[b]]


def plain_best(sheet, without=()):
    """All best SWAPS, by trying all sets of pairs, ascending."""
    pairs = plain_pairs(sheet, without)
    best = [()]
    for many in range(1, len(sheet[0]) // 2 + 1):
        tried = itertools.combinations(pairs, many)
        found = [swaps for swaps in tried if len({name for pair in swaps for name in pair}) == 2 * many]
        if not found:
            break
        best = found
    return sorted(best)


def plain_parts(sheet, some):
    """The parts of some, by joining what suits until nothing more joins."""
    parts = [{name} for name in some]
    for one, other in plain_pairs(sheet):
        if one in some and other in some:
            joined = [part for part in parts if one in part or other in part]
            parts = [part for part in parts if part not in joined] + [set().union(*joined)]
    return sorted(tuple(sorted(part)) for part in parts)


def all_moves(names):
    """Every choice of moves between these names by which no home is taken twice."""
    found = []
    for homes in itertools.product((None, *names), repeat=len(names)):
        moves = {name: home for name, home in zip(names, homes) if home is not None}
        once = len(set(moves.values())) == len(moves)
        if once and all(name != home for name, home in moves.items()):
            found.append(moves)
    return found


def plain_parts_of(moves):
    """The PARTs of moves, in any order: rows from those whose home nobody takes, then rings from any name."""
    parts, seen = [], set()
    for name in sorted(moves, key=lambda one: one in moves.values()):
        if name not in seen:
            names = [name]
            while moves[names[-1]] in moves and moves[names[-1]] not in names:
                names.append(moves[names[-1]])
            last = moves[names[-1]]
            parts.append((tuple(names), "" if last == name else last))
            seen.update(names)
    return parts


def shuffled(chance, names):
    return tuple(chance.sample(list(names), len(names)))


def plain_swaps(sheet):
    """All SWAPS, the best ones and all others, as sets of those who move."""
    pairs = plain_pairs(sheet)
    found = {frozenset()}
    for many in range(1, len(sheet[0]) // 2 + 1):
        for swaps in itertools.combinations(pairs, many):
            movers = frozenset(name for pair in swaps for name in pair)
            if len(movers) == 2 * many:
                found.add(movers)
    return found


def plain_most(moved, some):
    """How many of some move by one of the SWAPS in moved, at the most."""
    return max(len(movers & set(some)) for movers in moved)


def plain_kept(moved, order):
    """The set of those who are kept, going down the order."""
    found = set()
    for name in order:
        if any(found | {name} <= movers for movers in moved):
            found.add(name)
    return tuple(sorted(found))


def plain_homes(sheet):
    """The homes that each household may take: its own one first, then those that it wants and that are there."""
    there = {*dict(sheet[0]), *sheet[1]}
    return {name: [name, *[home for home in wants if home in there]] for name, wants in sheet[0]}


def plain_plans(sheet, rows=True):
    """All PLANs, as dicts of moves: all ways to give each household a home that it wants or its own."""
    choices = plain_homes(sheet)
    found = []
    for homes in itertools.product(*choices.values()):
        if len(set(homes)) == len(homes):
            moves = {name: home for name, home in zip(choices, homes) if name != home}
            if rows or not set(moves.values()) & set(sheet[1]):
                found.append(moves)
    return found


def plain_part_names(moves):
    """The lists of the names of the PARTs of moves."""
    return [names for names, _ in plain_parts_of(moves)]


def plain_left(moves, gone):
    """The moves that are left if these withdraw: who stays keeps its home, so nobody can move there."""
    left = {name: home for name, home in moves.items() if name not in gone}
    while any(home in moves and home not in left for home in left.values()):
        left = {name: home for name, home in left.items() if home not in moves or home in left}
    return left


def moves_of(plan):
    return {name: plan(name) for name in plan.movers}


def drawn_stays(chance, names, last):
    """STAYs of most of these names, and of some that are no households, from day 0 to last at the most."""
    found = []
    for name in sorted([*[one for one in names if chance.random() < 0.9], "ghost", "zzz"]):
        come = chance.randint(0, last)
        found.append((name, come, chance.randint(come, min(last, come + chance.choice((0, 2, last))))))
    return tuple(found)


def days_of(stays, name):
    """The set of the days on which this name is there."""
    return {day for one, come, go in stays if one == name for day in range(come, go + 1)}


def plain_met(sheet, stays):
    """The days on which the two of each pair that suits and meets are both there, by the pair."""
    met = {pair: days_of(stays, pair[0]) & days_of(stays, pair[1]) for pair in plain_pairs(sheet)}
    return {pair: days for pair, days in met.items() if days}


def only(sheet, names):
    """The SHEET of these households alone, with all empty homes."""
    return tuple(row for row in sheet[0] if row[0] in names), sheet[1]
