"""Plans: rings and rows by which households move."""

from crosshomes.data import is_name, wishes_by
from crosshomes.errors import Clash


def is_part(thing):
    """Whether thing has the form of a PART: a ring that begins with its least name, or a row."""
    if not isinstance(thing, tuple) or len(thing) != 2:
        return False
    names, end = thing
    if not _are_different_names(names):
        return False
    if end == "":
        return len(names) >= 2 and names[0] == min(names)
    return len(names) >= 1 and is_name(end) and end not in names


def _are_different_names(thing):
    if not isinstance(thing, tuple) or not all([is_name(name) for name in thing]):
        return False
    return len(set(thing)) == len(thing)


def _turned(names, end):
    """The PART of these names and this end; a ring is turned so that its least name is the first one."""
    if end != "":
        return tuple(names), end
    at = names.index(min(names))
    return (*names[at:], *names[:at]), ""


def _moves_of(part):
    """The pairs of a household of the PART and the home to which it moves."""
    names, end = part
    last = end or names[0]
    return list(zip(names, (*names[1:], last)))


def _names_twice(parts):
    """The names, ends included, that stand in two of the PARTs."""
    standing = [name for names, end in parts for name in (*names, end) if name != ""]
    return [name for name in standing if standing.count(name) > 1]


def _trail(moves, first):
    """The PART that begins with first: from home to home until a home that nobody leaves, or until first again."""
    names = [first]
    home = moves[first]
    while home in moves and home != first:
        names.append(home)
        home = moves[home]
    end = "" if home == first else home
    return tuple(names), end


def _parts_by(moves):
    """The PARTs by which just these households move to just these homes."""
    taken = list(moves.values())
    rows = [_trail(moves, name) for name in moves if name not in taken]
    in_rows = [name for names, end in rows for name in names]
    trails = [_trail(moves, name) for name in moves if name not in in_rows]
    # Each ring has been found from every one of its names.
    rings = [(names, end) for names, end in trails if names[0] == min(names)]
    return [*rows, *rings]


def _clashes(moves, others):
    """The names for which no Plan has both these moves and those others, and ends where each of both ends."""
    parted = [name for name in moves if others.get(name, moves[name]) != moves[name]]
    shared = [moves[one] for one in moves for other in others if one != other and moves[one] == others[other]]
    left_by_others = [home for home in moves.values() if home not in moves and home in others]
    left_by_these = [home for home in others.values() if home not in others and home in moves]
    return [*parted, *shared, *left_by_others, *left_by_these]


class Plan:
    """PARTs that have no name in common; a Plan does not change."""

    def __init__(self, *parts):
        turned = [_turned(names, end) for names, end in parts]
        twice = _names_twice(turned)
        if twice:
            raise Clash(min(twice))
        self._parts = tuple(sorted(turned))
        self._moves = {name: home for part in self._parts for name, home in _moves_of(part)}

    @classmethod
    def of(cls, parts):
        """The Plan of the PARTs in a tuple or a list."""
        return cls(*parts)

    @staticmethod
    def ring(first, *names):
        """The ring in which first moves to the next one of names, and the last one to first."""
        return _turned((first, *names), "")

    @staticmethod
    def row(end, *names):
        """The row of these names that ends in the empty home end."""
        return _turned(names, end)

    @property
    def parts(self):
        """The ascending tuple of the PARTs."""
        return self._parts

    @property
    def movers(self):
        """The set of the households that move."""
        return tuple(sorted(list(self._moves)))

    @property
    def ends(self):
        """The set of the empty homes that are taken."""
        return tuple(sorted([end for names, end in self._parts if end != ""]))

    @property
    def left(self):
        """The set of the homes that become empty: of the first household of each row."""
        return tuple([names[0] for names, end in self._parts if end != ""])

    @property
    def text(self):
        """The PARTs as people write them, such as "ann>bob>ann; fay>new"; "-" for none."""
        return "; ".join([">".join([*names, end or names[0]]) for names, end in self._parts]) or "-"

    def within(self, other):
        """Whether who moves here moves to the same home in other, and no end of this Plan moves there."""
        same = all([other._moves.get(name) == home for name, home in self._moves.items()])
        return same and not any([end in other._moves for end in self.ends])

    def __call__(self, name):
        """The home to which this household moves; None if it does not move."""
        return self._moves.get(name)

    def __contains__(self, x):
        return x in self._moves

    def __len__(self):
        return len(self._moves)

    def __bool__(self):
        return bool(self._moves)

    def __eq__(self, other):
        if not isinstance(other, Plan):
            return NotImplemented
        return self._parts == other._parts

    def __lt__(self, other):
        if not isinstance(other, Plan):
            return NotImplemented
        return self._parts < other._parts

    def __le__(self, other):
        if not isinstance(other, Plan):
            return NotImplemented
        return self._parts <= other._parts

    def __gt__(self, other):
        if not isinstance(other, Plan):
            return NotImplemented
        return self._parts > other._parts

    def __ge__(self, other):
        if not isinstance(other, Plan):
            return NotImplemented
        return self._parts >= other._parts

    def __and__(self, other):
        """The greatest Plan within both: of those whose way to the end, or around the ring, is the same in both."""
        both = [name for name in self._moves if name in other._moves]
        same = [name for name in both if _trail(self._moves, name) == _trail(other._moves, name)]
        parts = _parts_by({name: self._moves[name] for name in same})
        return Plan(*parts)

    def __or__(self, other):
        """The least Plan such that both are within it; raises Clash if there is none."""
        clashes = _clashes(self._moves, other._moves)
        if clashes:
            raise Clash(min(clashes))
        parts = _parts_by({**self._moves, **other._moves})
        return Plan(*parts)

    def __add__(self, other):
        """The Plan of the PARTs of both; raises Clash if a name stands in both."""
        parts = [*self._parts, *other._parts]
        return Plan(*parts)

    def __sub__(self, other):
        """What is left if the household of the name other withdraws: those whose way does not lead through it."""
        if other not in self._moves:
            return self
        others = [name for name in self._moves if other not in _trail(self._moves, name)[0]]
        parts = _parts_by({name: self._moves[name] for name in others})
        return Plan(*parts)


def plan_by(held):
    """The Plan by which each household has the home that it has in this dict; who has its own one does not move."""
    parts = _parts_by({name: home for name, home in held.items() if home != name})
    return Plan(*parts)


def is_plan(sheet, plan):
    """Whether the Plan is a PLAN for the SHEET: of its households, to its empties, each to a home that it wants."""
    wishes = wishes_by(sheet)
    if not all([name in wishes and plan(name) in wishes[name] for name in plan.movers]):
        return False
    return all([end in sheet[1] for end in plan.ends])


def left_of(plan, gone):
    """What is left of the Plan if all of the set gone withdraw."""
    rest = plan
    for name in gone:
        rest = rest - name
    return rest
