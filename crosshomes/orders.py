"""Order lists: whom a list keeps when as many as can be move by swaps, and why the others are left."""

from crosshomes.data import all_sets, households, is_set, must_be_households
from crosshomes.errors import NoHousehold
from crosshomes.pairing import greatest_sum, is_reason
from crosshomes.swaps import suiting


class Order:
    """An ORDER that can be changed."""

    def __init__(self, names):
        self._line = tuple(names)

    @property
    def line(self):
        """The tuple of the names as they stand now."""
        return self._line

    def ahead(self, one, other):
        """Whether the earliest name that is in just one of these two sets is in one; False if there is none."""
        parted = [name for name in self._line if (name in one) != (name in other)]
        return bool(parted) and parted[0] in one

    def __getitem__(self, at):
        """The place of the name at, from 0."""
        if at not in self._line:
            raise NoHousehold(at)
        return self._line.index(at)

    def __setitem__(self, at, worth):
        """Puts the name at to the place worth; the others stay behind one another as they are."""
        if at not in self._line:
            raise NoHousehold(at)
        others = [name for name in self._line if name != at]
        self._line = (*others[:worth], at, *others[worth:])

    def __iter__(self):
        raise TypeError("take the line of an Order")

    def __contains__(self, x):
        return x in self._line

    def __len__(self):
        return len(self._line)

    def __eq__(self, other):
        if not isinstance(other, Order):
            return NotImplemented
        return self._line == other._line


def line_of(order):
    """The tuple of the names of an ORDER, which may be an Order."""
    return order.line if isinstance(order, Order) else tuple(order)


def most_of(sheet, some):
    """How many of the set some can move together, at the most."""
    must_be_households(sheet, some)
    names = households(sheet)
    return greatest_sum(names, suiting(sheet), {name: 1 if name in some else 0 for name in names})


def can_move(sheet, some):
    """Whether all of the set some can move together."""
    return most_of(sheet, some) == len(some)


def why_not(sheet, some):
    """A REASON for some, the least one; None if all of some can move together."""
    staying = len(some) - most_of(sheet, some)
    if staying == 0:
        return None
    names, pairs = households(sheet), suiting(sheet)
    reasons = [taken for taken in all_sets(names) if is_reason(names, pairs, some, taken, staying)]
    return reasons[0]


def is_why_not(sheet, some, thing):
    """Whether thing is a REASON for some, and not all of some can move together."""
    staying = len(some) - most_of(sheet, some)
    names = households(sheet)
    if staying == 0 or not is_set(thing) or not all([name in names for name in thing]):
        return False
    return is_reason(names, suiting(sheet), some, thing, staying)


def walk(sheet, order):
    """A generator of the pairs (name, whether it is kept), in the order."""
    line = line_of(order)
    must_be_households(sheet, line)
    ahead = []
    for name in line:
        can = can_move(sheet, [*ahead, name])
        if can:
            ahead.append(name)
        yield name, can


def _kept_by(sheet, line):
    """The list of those who are kept, as they stand in line."""
    return [name for name, can in walk(sheet, line) if can]


def kept(sheet, order, *, first=()):
    """The set of those who are kept by the order, those of the tuple first put in front."""
    line = line_of(order)
    must_be_households(sheet, [*line, *first])
    behind = [name for name in line if name not in first]
    return tuple(sorted(_kept_by(sheet, [*first, *behind])))


def why_left(sheet, order, name):
    """A REASON for the set of those kept ahead of name, and name; None if it is kept."""
    line = line_of(order)
    must_be_households(sheet, [*line, name])
    ahead = _kept_by(sheet, line[:line.index(name)])
    return why_not(sheet, tuple(sorted([*ahead, name])))


def pushed_out(sheet, order, name):
    """Who is kept by the order and no longer if name is put first; None if name is kept, or suits nobody."""
    still = kept(sheet, order, first=(name,))
    out = [other for other in kept(sheet, order) if other not in still]
    return out[0] if out else None


def _with_ahead(sheet, classes):
    """The list of the pairs (the names of all classes ahead, the names of this one)."""
    must_be_households(sheet, [name for some in classes for name in some])
    return [([name for some in classes[:at] for name in some], list(classes[at])) for at in range(len(classes))]


def by_classes(sheet, classes):
    """The list of how many of each class are kept by an ORDER that has each class ahead of the next one."""
    # How they stand within the classes ahead makes no difference to how many are kept.
    pairs = _with_ahead(sheet, classes)
    return [most_of(sheet, [*ahead, *some]) - most_of(sheet, ahead) for ahead, some in pairs]


def sure_in(sheet, classes):
    """The set of those who are kept by all ORDERs that have each class ahead of the next one."""
    found = []
    for ahead, some in _with_ahead(sheet, classes):
        most = most_of(sheet, [*ahead, *some])
        for name in some:
            # No place is worse for it than the last one of its class.
            others = [other for other in some if other != name]
            if most_of(sheet, [*ahead, *others]) < most:
                found.append(name)
    return tuple(sorted(found))


def maybe_in(sheet, classes):
    """The set of those who are kept by some ORDER that has each class ahead of the next one."""
    found = []
    for ahead, some in _with_ahead(sheet, classes):
        most = most_of(sheet, ahead)
        # No place is better for it than the first one of its class.
        found.extend([name for name in some if most_of(sheet, [*ahead, name]) > most])
    return tuple(sorted(found))


def more_from(sheet, some, other):
    """The least household of the set other, not in some, that can move together with all of some; None if none can."""
    must_be_households(sheet, [*some, *other])
    fitting = [name for name in other if name not in some and can_move(sheet, [*some, name])]
    return fitting[0] if fitting else None


def worth(sheet, worths):
    """The greatest sum of the worths, a tuple in the order of the SHEET, of households that can move together."""
    names = households(sheet)
    return greatest_sum(names, suiting(sheet), {name: number for name, number in zip(names, worths)})
