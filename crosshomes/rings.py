"""Rings and rows of any length: how many can move, and the prices that show that no more can."""

from crosshomes.data import all_sets, must_be_households, wanted_homes
from crosshomes.errors import BadBound, NoHome, NoHousehold
from crosshomes.giving import (
    are_prices_for, best_given, greatest_value, least_prices, values_of, with_empty, with_value,
)
from crosshomes.orders import line_of
from crosshomes.packing import best_packed, rings_in
from crosshomes.plans import Plan, plan_by


class Prices:
    """Numbers for the names of households, and for the names of homes."""

    def __init__(self, households, homes):
        self._by_household = {name: number for name, number in households}
        self._by_home = {name: number for name, number in homes}
        self._pairs = tuple(self._by_household.items()), tuple(self._by_home.items())

    @property
    def total(self):
        """The sum of all numbers."""
        return sum(self._by_household.values()) + sum(self._by_home.values())

    @property
    def pairs(self):
        """The pair (households, homes), each an ascending tuple of pairs (name, number)."""
        return self._pairs

    def __getitem__(self, at):
        """The number of a household."""
        if at not in self._by_household:
            raise NoHousehold(at)
        return self._by_household[at]

    def __call__(self, name):
        """The number of a home."""
        if name not in self._by_home:
            raise NoHome(name)
        return self._by_home[name]

    def __iter__(self):
        raise TypeError("take the pairs of Prices")

    def __len__(self):
        return len([*self._by_household, *self._by_home])

    def __eq__(self, other):
        if not isinstance(other, Prices):
            return NotImplemented
        return self._pairs == other._pairs


def _values(sheet, rows):
    """What homes are worth by wishes alone; without rows, the empty homes are left out."""
    return values_of(sheet if rows else (sheet[0], ()))


def most_any(sheet, *, rows=True):
    """How many households move at the most; without rows, by rings alone."""
    return greatest_value(_values(sheet, rows))


def any_plan(sheet, *, rows=True):
    """A Plan by which so many move."""
    held, _ = best_given(_values(sheet, rows))
    return plan_by(held)


def prices_of(sheet):
    """Prices that are PRICES of the SHEET, with the sum most_any."""
    by_household, by_home = least_prices(sheet, values_of(sheet))
    return Prices(by_household, by_home)


def are_prices(sheet, thing):
    """Whether thing is PRICES of the SHEET."""
    return isinstance(thing, Prices) and are_prices_for(sheet, values_of(sheet), thing.pairs)


def gains(sheet):
    """A generator of how many more move with a first EXTRA, then with a second one, until all move."""
    values = values_of(sheet)
    names = list(values)
    most = greatest_value(values)
    for number in range(len(names)):
        if most < len(names):
            # A NAME has no digits, so that the EXTRA is a home of its own.
            values = with_empty(values, str(number), names)
            more = greatest_value(values)
            yield more - most
            most = more


def fewest_extras(sheet):
    """With how many EXTRAs all move."""
    return len(list(gains(sheet)))


def _tightest(ways):
    """The least of the sets of households with the greatest number of members less homes that are open to them."""
    def beyond(some):
        return len(some) - len(set([home for name in some for home in ways[name]]))

    return max(all_sets(list(ways)), key=beyond)


def crowd(sheet):
    """The least of the sets of households with the greatest number of members less homes that some of them want."""
    return _tightest(wanted_homes(sheet))


def worth_of(sheet, empty):
    """By how much fewer move without this empty home."""
    rows, empties = sheet
    if empty not in empties:
        raise NoHome(empty)
    return most_any(sheet) - most_any((rows, [home for home in empties if home != empty]))


def _homes_by_best(sheet):
    """For each household the list of the homes that it has by some PLAN by which most_any move, its own one ahead."""
    values = values_of(sheet)
    most = greatest_value(values)
    found = {}
    for name in values:
        # If a home is worth one more, the greatest sum grows only if it is one of such a PLAN.
        raised = {home: with_value(values, name, home, number + 1) for home, number in values[name].items()}
        found[name] = [home for home in raised if greatest_value(raised[home]) > most]
    return found


def surely_moves(sheet):
    """The set of the households that move by all PLANs by which most_any move."""
    return tuple([name for name, had in _homes_by_best(sheet).items() if name not in had])


def may_move(sheet):
    """The set of the households that move by some PLAN by which most_any move."""
    return tuple([name for name, had in _homes_by_best(sheet).items() if had != [name]])


def surely_take(sheet):
    """The ascending list of the pairs (household, home): it moves there by all PLANs by which most_any move."""
    return [(name, had[0]) for name, had in _homes_by_best(sheet).items() if len(had) == 1 and had != [name]]


def may_take(sheet):
    """The ascending list of the pairs (household, home): it moves there by some PLAN by which most_any move."""
    return [(name, home) for name, had in _homes_by_best(sheet).items() for home in had if home != name]


def move_together(sheet, names):
    """Whether all of the set names move by one PLAN, whoever else does."""
    must_be_households(sheet, names)
    values = values_of(sheet)
    nothing = {name: {home: 0 for home in values[name]} for name in values}
    chosen = {name: values[name] if name in names else nothing[name] for name in values}
    return greatest_value(chosen) == len(names)


def why_stuck(sheet, names):
    """None if they move together; else the least of the sets with the most members beyond the homes open to them."""
    if move_together(sheet, names):
        return None
    wants = wanted_homes(sheet)
    return _tightest({name: wants[name] if name in names else (name, *wants[name]) for name in wants})


def kept_any(sheet, order):
    """The set that comes of going down the order, and keeping each one that moves together with all that are kept."""
    line = line_of(order)
    must_be_households(sheet, line)
    found = []
    for name in line:
        if move_together(sheet, [*found, name]):
            found.append(name)
    return tuple(sorted(found))


def with_part(sheet, name):
    """A PART by which this household moves, with as few names as can be; None if there is none."""
    must_be_households(sheet, (name,))
    wants = wanted_homes(sheet)
    ways = {name: (name,)}
    reached = [name]
    while ways:
        for way in ways.values():
            for home in wants[way[-1]]:
                if home == name:
                    ring = Plan((way, ""))
                    return ring.parts[0]
                if home not in wants:
                    return way, home
        ways = {home: (*way, home) for way in ways.values() for home in wants[way[-1]] if home not in reached}
        reached = [*reached, *ways]
    return None


def with_fewest(sheet, name):
    """The least number of households that move by a PLAN by which this one moves; None if there is none."""
    part = with_part(sheet, name)
    return None if part is None else len(part[0])


def _best_rings(sheet, longest):
    """How many move by rings of at most so many names, and a tuple of such rings."""
    if longest < 2:
        raise BadBound(longest)
    return best_packed([(len(names), (names, end)) for names, end in rings_in(sheet, longest)])


def most_rings(sheet, *, longest=3):
    """How many households move at the most by rings of at most so many names."""
    return _best_rings(sheet, longest)[0]


def rings_plan(sheet, *, longest=3):
    """A Plan of such rings by which so many move."""
    _, rings = _best_rings(sheet, longest)
    return Plan(*rings)
