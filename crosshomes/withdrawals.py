"""Withdrawals: what is left of a Plan if some withdraw, how it is repaired, and with how few changes."""

from crosshomes.data import must_be_households, wanted_homes, without
from crosshomes.giving import are_prices_for, best_given, least_prices, values_of
from crosshomes.packing import best_packed, rings_in, rows_in
from crosshomes.plans import Plan, plan_by
from crosshomes.rings import any_plan, most_any


def _enders(part):
    """The names of the PART such that nobody of it moves if one of them withdraws, the least one first."""
    names, end = part
    return names if end == "" else names[-1:]


def safe_for(plan, many):
    """The fewest who still move if at most many households withdraw at once."""
    sizes = sorted([len(names) for names, end in plan.parts], reverse=True)
    return sum(sizes[many:])


def worst_gone(plan, many):
    """The least of the sets of at most many households behind whose withdrawal so few move."""
    worst = sorted([(-len(part[0]), _enders(part)[0]) for part in plan.parts])
    return tuple(sorted([name for less, name in worst[:many]]))


def weak_ones(plan):
    """The set of all behind whose withdrawal alone as few move as behind any."""
    most = max([0, *[len(names) for names, end in plan.parts]])
    return tuple(sorted([name for part in plan.parts if len(part[0]) == most for name in _enders(part)]))


def _safest(sheet, many):
    """The greatest safe_for of all PLANs, and the PARTs of such a PLAN.

    Whatever the limit, the many longest PARTs of a PLAN have at most many * limit names, and those that any PARTs have
    beyond the limit; for a fitting limit just so many. So what is looked for is the limit, and the PARTs, with the
    greatest number of names within the limit, less many * limit.
    """
    parts = [*rings_in(sheet, len(sheet[0])), *rows_in(sheet)]
    best = 0, ()
    for limit in range(len(sheet[0]) + 1):
        within, chosen = best_packed([(min(limit, len(names)), (names, end)) for names, end in parts])
        if within - many * limit > best[0]:
            best = within - many * limit, chosen
    return best


def safest(sheet, many):
    """The greatest safe_for of all PLANs for the SHEET."""
    return _safest(sheet, many)[0]


def safest_plan(sheet, many):
    """A PLAN that has it."""
    _, parts = _safest(sheet, many)
    return Plan(*parts)


def _whole_parts(plan, gone):
    """The PARTs in which nobody of gone stands."""
    return [(names, end) for names, end in plan.parts if not any([name in gone for name in names])]


def rest_sheet(sheet, plan, *, gone):
    """The SHEET of those who are neither gone nor in a whole PART, and of the empty homes that whole PARTs leave."""
    must_be_households(sheet, gone)
    whole = _whole_parts(plan, gone)
    settled = [*gone, *[name for names, end in whole for name in names]]
    taken = [end for names, end in whole]
    left = [names[0] for names, end in whole if end != ""]
    empties = tuple(sorted([*[home for home in sheet[1] if home not in taken], *left]))
    rows = [(name, wishes) for name, wishes in sheet[0] if name not in settled]
    wants = wanted_homes((rows, empties))
    return tuple(wants.items()), empties


def most_repaired(sheet, plan, *, gone):
    """How many can move, nobody of gone among them, if each household of a whole PART takes its old home."""
    rest = rest_sheet(sheet, plan, gone=gone)
    return sum([len(names) for names, end in _whole_parts(plan, gone)]) + most_any(rest)


def repair(sheet, plan, *, gone):
    """A PLAN by which they do so, and so many move."""
    more = any_plan(rest_sheet(sheet, plan, gone=gone))
    parts = _whole_parts(plan, gone)
    whole = Plan(*parts)
    # A row of the rest may end in a home that a whole row leaves: both are one row then.
    return plan_by({name: one(name) for one in (whole, more) for name in one.movers})


def _old_home(plan, name):
    return plan(name) or name


def _told_values(sheet, plan, gone):
    """What homes are worth to those not of gone: first of all that they move, then that nobody is told another home."""
    values = values_of(without(sheet, gone))
    move = len(values) + 1
    told = {}
    for name in values:
        old = _old_home(plan, name)
        told[name] = {home: move * number + (1 if home == old else 0) for home, number in values[name].items()}
    return told


def _calmest_homes(sheet, plan, gone):
    """The home of each household not of gone by such a PLAN as calmest tells."""
    held, _ = best_given(_told_values(sheet, plan, gone))
    return held


def fewest_told(sheet, plan, *, gone):
    """If as many as can be of the others move, how few of them get another home than their old one."""
    held = _calmest_homes(sheet, plan, gone)
    return len([name for name in held if held[name] != _old_home(plan, name)])


def calmest(sheet, plan, *, gone):
    """A PLAN by which just so many do."""
    return plan_by(_calmest_homes(sheet, plan, gone))


def told_prices(sheet, plan, *, gone):
    """TOLD PRICES with the least sum: the reason that no fewer are told."""
    return least_prices(without(sheet, gone), _told_values(sheet, plan, gone))


def are_told_prices(sheet, plan, thing, *, gone):
    """Whether thing is TOLD PRICES, whatever the sum."""
    return are_prices_for(without(sheet, gone), _told_values(sheet, plan, gone), thing)
