"""PARTs that have no name in common, chosen so that the sum of what they are worth is the greatest."""

from crosshomes.data import wanted_homes


def rings_in(sheet, longest):
    """For each set of at most so many households that can move as a ring, one such ring, as a PART."""
    wants = wanted_homes(sheet)
    found = []
    for first in wants:
        behind = [name for name in wants if name > first]
        found.extend([(ring, "") for ring in _rings_from(wants, first, behind, longest)])
    return found


def all_rings(sheet, longest):
    """All rings of at most so many households, as PARTs."""
    wants = wanted_homes(sheet)
    ways = [(name,) for name in wants]
    found = []
    for _ in range(longest - 1):
        steps = [(way, name) for way in ways for name in wants[way[-1]] if name in wants]
        # The least name of a ring is its first one.
        ways = [(*way, name) for way, name in steps if name > way[0] and name not in way]
        found.extend([(way, "") for way in ways if way[0] in wants[way[-1]]])
    return found


def rows_in(sheet):
    """For each set of households that can move as a row to an empty home, one such row, as a PART."""
    wants = wanted_homes(sheet)
    names = list(wants)
    found = []
    for end in sheet[1]:
        # As if the empty home wanted every home: then a row is a ring that begins with its end.
        found.extend([(ring[1:], end) for ring in _rings_from({**wants, end: names}, end, names, len(names) + 1)])
    return found


def _rings_from(wants, first, others, longest):
    """For each set of names that a ring of first and some others can have, one such ring that begins with first."""
    found = {}
    ways = {((first,), first): (first,)}
    for _ in range(min(longest - 1, len(others))):
        steps = [(way, name) for way in ways.values() for name in wants[way[-1]] if name in others]
        longer = [(*way, name) for way, name in steps if name not in way]
        # Of the ways through the same names to the same one, one is enough.
        ways = {(tuple(sorted(way)), way[-1]): way for way in longer}
        for (names, last), way in ways.items():
            if first in wants[last]:
                found[names] = way
    return list(found.values())


def best_packed(rated):
    """Of pairs (worth, PART) the greatest sum of worths of PARTs without a common name, and a tuple of such PARTs."""
    by_first = {}
    everybody = []
    for worth, (names, end) in rated:
        members = tuple(sorted([name for name in (*names, end) if name != ""]))
        by_first.setdefault(members[0], []).append((worth, members, (names, end)))
        everybody.extend(members)
    return _packed(tuple(sorted(set(everybody))), by_first, {})


def _packed(rest, by_first, known):
    """As best_packed, for the PARTs of these names; known keeps the answers, as the same rest comes often."""
    if not rest:
        return 0, ()
    if rest not in known:
        best = _packed(rest[1:], by_first, known)
        for worth, members, part in by_first.get(rest[0], []):
            if all([name in rest for name in members]):
                left = tuple([name for name in rest if name not in members])
                more, parts = _packed(left, by_first, known)
                if worth + more > best[0]:
                    best = worth + more, (part, *parts)
        known[rest] = best
    return known[rest]
