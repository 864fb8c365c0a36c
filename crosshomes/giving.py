"""Homes given to households: each has one, none is given twice, and the sum of what they are worth is the greatest.

What homes are worth stands in a dict, called values: for each household the dict of the homes that it may have, its own
one among them, with a number for each.
"""

from crosshomes.data import homes, is_number, wanted_homes


def values_of(sheet):
    """1 for each home that a household wants, and 0 for its own: so the sum is the number of those who move."""
    wants = wanted_homes(sheet)
    return {name: {name: 0, **{home: 1 for home in wants[name]}} for name in wants}


def with_value(values, name, home, number):
    """The values with this number for this household and this home."""
    return {**values, name: {**values[name], home: number}}


def without_home(values, name, home):
    """The values if this household may not have this home."""
    rest = {other: number for other, number in values[name].items() if other != home}
    return {**values, name: rest}


def with_empty(values, home, wanting):
    """The values with one more empty home, which just these households want."""
    return {name: {**values[name], home: 1} if name in wanting else values[name] for name in values}


def _steps(values, held, places):
    """The triples (home, other, gain): whoever holds home takes other instead, and the sum grows by gain.

    "" stands ahead of each row of steps, and behind its last home, which nobody holds: so a row is a ring, too.
    """
    steps = []
    for name, home in held.items():
        steps.extend([(home, other, number - values[name][home]) for other, number in values[name].items()])
    taken = list(held.values())
    behind = [(home, "", 0) for home in places if home not in taken]
    return [*steps, *behind, *[("", home, 0) for home in places]]


def _grown(steps, places):
    """The greatest sums of the gains of steps on the way to each place, and a ring of steps with a gain above 0.

    The ring is [] if there is none. If there is one, the sums would grow for ever, and are not of use.
    """
    sums = {home: 0 for home in places}
    ahead = {}
    for _ in places:
        last = None
        for home, other, gain in steps:
            if sums[home] + gain > sums[other]:
                sums[other] = sums[home] + gain
                ahead[other] = home
                last = other
        if last is None:
            return sums, []
    # A way without a ring has fewer steps than there are places: so what still grows has a ring ahead of it.
    return sums, _ring_ahead(ahead, last)


def _ring_ahead(ahead, last):
    """The ring to which one comes from last, going back from each place to the one ahead of it."""
    place = last
    for _ in range(len(ahead)):
        place = ahead[place]
    ring = [place]
    while ahead[ring[0]] != place:
        ring = [ahead[ring[0]], *ring]
    return ring


def best_given(values):
    """The home that each household has if the sum is the greatest, and a number for each home, and for "".

    A number is from 0, and 0 if nobody has the home. Less these numbers, no home is worth more to a household than the
    one that it has: so no sum is greater.
    """
    held = {name: name for name in values}
    places = ["", *sorted(set([home for name in values for home in values[name]]))]
    sums, ring = _grown(_steps(values, held, places), places)
    while ring:
        after = {home: other for home, other in zip(ring, [*ring[1:], ring[0]])}
        held = {name: after.get(home, home) for name, home in held.items()}
        sums, ring = _grown(_steps(values, held, places), places)
    return held, sums


def greatest_value(values):
    """The greatest sum."""
    held, _ = best_given(values)
    return sum([values[name][home] for name, home in held.items()])


def least_prices(sheet, values):
    """The reason that no sum is greater: tuples of pairs of a household, and of a home, and a number.

    A household and a home that it may have together have at least what the home is worth to it.
    """
    held, numbers = best_given(values)
    by_household = [(name, values[name][home] - numbers[home]) for name, home in held.items()]
    return tuple(by_household), tuple([(home, numbers.get(home, 0)) for home in homes(sheet)])


def are_prices_for(sheet, values, thing):
    """Whether thing is such a reason, whatever its sum."""
    if not isinstance(thing, tuple) or len(thing) != 2:
        return False
    if not _has_numbers(thing[0], list(values)) or not _has_numbers(thing[1], list(homes(sheet))):
        return False
    own, price = {name: number for name, number in thing[0]}, {home: number for home, number in thing[1]}
    if not all([number >= 0 for home, number in thing[1]]):
        return False
    return all([own[name] + price[home] >= values[name][home] for name in values for home in values[name]])


def _has_numbers(thing, names):
    """Whether thing is a tuple of pairs of these names, in this order, and a number."""
    if not isinstance(thing, tuple) or not all([isinstance(pair, tuple) and len(pair) == 2 for pair in thing]):
        return False
    if not all([is_number(number) for name, number in thing]):
        return False
    return [name for name, number in thing] == names
