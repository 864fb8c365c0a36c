"""Sheets: which households there are, which homes they want, and which homes are empty."""

from crosshomes.errors import NoHome, NoHousehold, Taken


def is_number(thing):
    """Whether thing is a Number: an int, but neither True nor False."""
    return isinstance(thing, int) and not isinstance(thing, bool)


def is_name(thing):
    """Whether thing is a NAME: a string of 1 to 8 letters a to z."""
    if not isinstance(thing, str):
        return False
    return 1 <= len(thing) <= 8 and all(["a" <= letter <= "z" for letter in thing])


def is_set(thing):
    """Whether thing is a set of NAMEs: an ascending tuple without duplicates."""
    if not isinstance(thing, tuple) or not all([is_name(name) for name in thing]):
        return False
    return ascends(thing)


def ascends(names):
    """Whether each of these is less than the next one."""
    return all([one < other for one, other in zip(names, names[1:])])


def _is_row(thing):
    if not isinstance(thing, tuple) or len(thing) != 2:
        return False
    name, wants = thing
    return is_name(name) and is_set(wants) and name not in wants


def all_sets(names):
    """All sets of these names, from the least one on: those with fewer members first, then by comparison."""
    found = [()]
    for name in sorted(names):
        found = [*found, *[(*some, name) for some in found]]
    return sorted(found, key=lambda some: (len(some), some))


def is_sheet(thing):
    """Whether thing is a SHEET."""
    if not isinstance(thing, tuple) or len(thing) != 2:
        return False
    rows, empties = thing
    if not isinstance(rows, tuple) or not all([_is_row(row) for row in rows]):
        return False
    names = [name for name, wants in rows]
    return ascends(names) and is_set(empties) and not any([name in empties for name in names])


def plain_sheet(sheet):
    """The same SHEET, of tuples at every depth."""
    rows, empties = sheet
    return tuple([(name, tuple(wants)) for name, wants in rows]), tuple(empties)


def must_be_households(sheet, names):
    """Raises NoHousehold for the first of these names that is no household."""
    known = households(sheet)
    for name in names:
        if name not in known:
            raise NoHousehold(name)


def households(sheet):
    """The set of the households."""
    return tuple([name for name, wants in sheet[0]])


def homes(sheet):
    """The set of the homes: those of the households, and the empty ones."""
    return tuple(sorted([*households(sheet), *sheet[1]]))


def wishes_by(sheet):
    """The wishes of each household, also those that count for nothing, by its name."""
    return {name: tuple(wants) for name, wants in sheet[0]}


def wanted_homes(sheet):
    """The set of the homes that each household wants, by its name."""
    there = homes(sheet)
    return {name: tuple([home for home in wants if home in there]) for name, wants in sheet[0]}


def wants_of(sheet, name, *, idle=False):
    """The set of the homes that this household wants; with idle of all its wishes, also for what is no home."""
    must_be_households(sheet, (name,))
    return wishes_by(sheet)[name] if idle else wanted_homes(sheet)[name]


def wanted_by(sheet, home):
    """The set of the households that want this home."""
    if home not in homes(sheet):
        raise NoHome(home)
    return tuple([name for name, wants in sheet[0] if home in wants])


def suits(sheet, one, other):
    """Whether each of these two households wants the other's home."""
    must_be_households(sheet, (one, other))
    wishes = wishes_by(sheet)
    return other in wishes[one] and one in wishes[other]


def suited_to(sheet, name):
    """The set of the households that suit this one."""
    must_be_households(sheet, (name,))
    wishes = wishes_by(sheet)
    return tuple([other for other in wishes[name] if name in wishes.get(other, ())])


def without(sheet, names):
    """The SHEET without the rows of these households; the wishes of the others stay as they are."""
    must_be_households(sheet, names)
    rows, empties = plain_sheet(sheet)
    return tuple([(name, wants) for name, wants in rows if name not in names]), empties


def _must_be_free(sheet, name):
    if name in homes(sheet):
        raise Taken(name)


def joined_by(sheet, name, wants):
    """The SHEET with the row of one more household."""
    _must_be_free(sheet, name)
    rows, empties = plain_sheet(sheet)
    return tuple(sorted([*rows, (name, tuple(wants))])), empties


def opened(sheet, home):
    """The SHEET with one more empty home."""
    _must_be_free(sheet, home)
    rows, empties = plain_sheet(sheet)
    return rows, tuple(sorted([*empties, home]))
