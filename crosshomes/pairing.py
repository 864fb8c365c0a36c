"""Names in pairs: the best choice of pairs that have no name in common, and the reason that there is no better one.

The names are ascending here, and each of the pairs has its lesser name first.
"""


def greatest_sum(names, pairs, worths):
    """The greatest sum of the worths of names that stand in pairs, if no name stands in two of them."""
    return _greatest(tuple(names), pairs, worths, {})


def _greatest(names, pairs, worths, known):
    """As greatest_sum; known keeps the answers, as the same rest of the names comes often."""
    if len(names) < 2:
        return 0
    if names not in known:
        first, rest = names[0], names[1:]
        sums = [_greatest(rest, pairs, worths, known)]
        for other in rest:
            if (first, other) in pairs:
                left = tuple([name for name in rest if name != other])
                sums.append(worths[first] + worths[other] + _greatest(left, pairs, worths, known))
        known[names] = max(sums)
    return known[names]


def most_paired(names, pairs):
    """How many of the names can stand in pairs, if no name stands in two of them."""
    return greatest_sum(names, pairs, {name: 1 for name in names})


def parts_of(some, pairs):
    """The ascending list of the parts of some: the sets of those that hang together by the pairs."""
    parts = [(name,) for name in some]
    for one, other in pairs:
        joined = [part for part in parts if one in part or other in part]
        if len(joined) == 2:
            others = [part for part in parts if part not in joined]
            parts = [*others, (*joined[0], *joined[1])]
    return sorted([tuple(sorted(part)) for part in parts])


def is_reason(names, pairs, some, taken, staying):
    """Whether so many of some must stay, as the parts without taken show.

    Each odd part that lies wholly in some leaves one of it, unless one of taken stands in a pair with one of it.
    """
    parts = parts_of([name for name in names if name not in taken], pairs)
    odd = [part for part in parts if len(part) % 2 == 1 and all([name in some for name in part])]
    return len(odd) == len(taken) + staying
