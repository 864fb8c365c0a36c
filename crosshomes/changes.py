"""One thing more, one thing less: how many households more can move, or fewer, counting all."""

from crosshomes.data import homes, households, must_be_households
from crosshomes.errors import NoHome
from crosshomes.giving import greatest_value, values_of, with_empty, with_value, without_home
from crosshomes.orders import most_of
from crosshomes.pairing import most_paired
from crosshomes.rings import most_any, worth_of
from crosshomes.swaps import most_swaps, suiting


def gain_by_household(sheet, suits):
    """By swaps, how many more can move if one more household comes, and suits just these."""
    must_be_households(sheet, suits)
    # "" is no NAME, and less than each of them.
    pairs = [*[("", name) for name in suits], *suiting(sheet)]
    return most_paired(["", *households(sheet)], pairs) - most_swaps(sheet)


def gain_by_pair(sheet, one, other):
    """By swaps, how many more can move if these two suited each other; 0 if they do."""
    must_be_households(sheet, (one, other))
    pairs = [*suiting(sheet), tuple(sorted([one, other]))]
    return most_paired(households(sheet), pairs) - most_swaps(sheet)


def helping_pairs(sheet):
    """The ascending list of the pairs (one, other), one less than other, with which two more can move by swaps."""
    names, pairs = households(sheet), suiting(sheet)
    most = most_paired(names, pairs)
    more = [(one, other) for one in names for other in names if one < other]
    return [pair for pair in more if most_paired(names, [*pairs, pair]) > most]


def fewest_pairs(sheet):
    """The least number of further pairs that suit each other with which at most one household stays."""
    return (len(households(sheet)) - most_swaps(sheet)) // 2


def loss_by_household(sheet, name):
    """By swaps, how many fewer can move if this household leaves the SHEET."""
    return most_swaps(sheet) - most_swaps(sheet, without=(name,))


def loss_by_pair(sheet, one, other):
    """By swaps, how many fewer can move if these two no longer suit each other; 0 if they do not."""
    must_be_households(sheet, (one, other))
    rest = [pair for pair in suiting(sheet) if one not in pair or other not in pair]
    return most_swaps(sheet) - most_paired(households(sheet), rest)


def can_leave(sheet, some):
    """Whether as many can move by swaps if all of the set some leave the SHEET."""
    return most_swaps(sheet, without=some) == most_swaps(sheet)


def most_leaving(sheet, some):
    """The greatest number of members of some that can leave the SHEET so that as many can move by swaps."""
    must_be_households(sheet, some)
    others = [name for name in households(sheet) if name not in some]
    return len(some) + most_of(sheet, others) - most_swaps(sheet)


def _must_be_another_home(sheet, name, home):
    """Raises NoHousehold, then NoHome, also for the household's own home."""
    must_be_households(sheet, (name,))
    if home == name or home not in homes(sheet):
        raise NoHome(home)


def gain_by_wish(sheet, name, home):
    """By rings and rows, how many more can move if this household wanted this home, too; 0 if it does."""
    _must_be_another_home(sheet, name, home)
    return greatest_value(with_value(values_of(sheet), name, home, 1)) - most_any(sheet)


def loss_by_wish(sheet, name, home):
    """By rings and rows, how many fewer can move if this household did not want this home; 0 if it does not."""
    _must_be_another_home(sheet, name, home)
    return most_any(sheet) - greatest_value(without_home(values_of(sheet), name, home))


def gain_by_empty(sheet, wanting):
    """By rings and rows, how many more can move if there were one more empty home, which just these want."""
    must_be_households(sheet, wanting)
    # "0" is no NAME, so that nobody else can want it.
    return greatest_value(with_empty(values_of(sheet), "0", wanting)) - most_any(sheet)


def loss_by_empty(sheet, empty):
    """By rings and rows, how many fewer can move if this empty home were not there."""
    return worth_of(sheet, empty)


def cap_by_wish(sheet, prices, name, home):
    """What the Prices say that gain_by_wish is at the most."""
    must_be_households(sheet, (name,))
    if home not in homes(sheet):
        raise NoHome(home)
    return max(0, 1 - prices[name] - prices(home))


def cap_by_empty(sheet, prices, wanting):
    """What the Prices say that gain_by_empty is at the most."""
    must_be_households(sheet, wanting)
    return max([0, *[1 - prices[name] for name in wanting]])
