"""Swaps: two households that suit each other exchange their homes; how many can, who surely does, and why no more."""

from crosshomes.data import households, is_set, must_be_households, suited_to
from crosshomes.pairing import is_reason, most_paired, parts_of


def suiting(sheet, *, without=()):
    """The ascending list of all pairs (one, other), one less than other, that suit each other."""
    must_be_households(sheet, without)
    names = [name for name in households(sheet) if name not in without]
    return [(one, other) for one in names for other in suited_to(sheet, one) if one < other and other in names]


def most_swaps(sheet, *, without=()):
    """How many households move by a best SWAPS."""
    pairs = suiting(sheet, without=without)
    return most_paired(households(sheet), pairs)


def _choices(pairs, many):
    """The ascending list of all SWAPS of so many of the pairs."""
    if many == 0:
        return [()]
    found = []
    for at, (one, other) in enumerate(pairs):
        later = [pair for pair in pairs[at + 1:] if one not in pair and other not in pair]
        found.extend([((one, other), *swaps) for swaps in _choices(later, many - 1)])
    return found


def _best_swaps(sheet, without):
    """The ascending list of all best SWAPS."""
    many = most_swaps(sheet, without=without) // 2
    return _choices(suiting(sheet, without=without), many)


def _moves_by(swaps, name):
    return any([name in pair for pair in swaps])


def least_swaps(sheet, *, without=()):
    """The least of the best SWAPS, by comparison."""
    return _best_swaps(sheet, without)[0]


def every_swaps(sheet, *, without=()):
    """All best SWAPS, ascending."""
    best = _best_swaps(sheet, without)
    yield from best


def parts_in(sheet, some, *, odd=None):
    """The ascending list of the parts of the set some; only the odd ones, or the others, if odd is True or False."""
    must_be_households(sheet, some)
    parts = parts_of(some, suiting(sheet))
    return [part for part in parts if odd is None or odd == (len(part) % 2 == 1)]


def kinds(sheet):
    """The sets (open, hold, settled): who stays in some best SWAPS, who else suits one of these, and all others."""
    best = _best_swaps(sheet, ())
    names = households(sheet)
    staying = tuple([name for name in names if not all([_moves_by(swaps, name) for swaps in best])])
    moving = [name for name in names if name not in staying]
    hold = tuple([name for name in moving if any([other in staying for other in suited_to(sheet, name)])])
    settled = tuple([name for name in moving if name not in hold])
    return staying, hold, settled


def leaves(sheet, name):
    """The least of the best SWAPS in which this household stays; None if it moves in all of them."""
    must_be_households(sheet, (name,))
    leaving = [swaps for swaps in _best_swaps(sheet, ()) if not _moves_by(swaps, name)]
    return leaving[0] if leaving else None


def partners(sheet, name):
    """The set of the households with which this one swaps in some best SWAPS."""
    suited = suited_to(sheet, name)
    pairs = [pair for swaps in _best_swaps(sheet, ()) for pair in swaps if name in pair]
    return tuple([other for other in suited if any([other in pair for pair in pairs])])


def sure_swaps(sheet):
    """The ascending list of the pairs that are in all best SWAPS."""
    best = _best_swaps(sheet, ())
    return [pair for pair in suiting(sheet) if all([pair in swaps for swaps in best])]


def idle_swaps(sheet):
    """The ascending list of the pairs that suit each other, and are in no best SWAPS."""
    best = _best_swaps(sheet, ())
    return [pair for pair in suiting(sheet) if not any([pair in swaps for swaps in best])]


def is_barrier(sheet, thing):
    """Whether thing is a set of households that leaves as many odd parts more than its members as must stay."""
    names = households(sheet)
    if not is_set(thing) or not all([name in names for name in thing]):
        return False
    return is_reason(names, suiting(sheet), names, thing, len(names) - most_swaps(sheet))
