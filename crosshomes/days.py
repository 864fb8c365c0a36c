"""Days: on which days households are there, and how many can move if two must meet to swap."""

from crosshomes.data import ascends, households, is_number, must_be_households, without
from crosshomes.errors import BadStay, NoHousehold
from crosshomes.orders import kept, line_of
from crosshomes.rings import most_any
from crosshomes.swaps import least_swaps, most_swaps, suiting


def _common(days, others):
    """The first and the last day that two pairs of a first and a last day have in common; None if there is none."""
    come, go = max(days[0], others[0]), min(days[1], others[1])
    return (come, go) if come <= go else None


class Calendar:
    """On which days those of a name are there: from the day come to the day go."""

    def __init__(self, stays):
        for name, come, go in stays:
            if go < come:
                raise BadStay(name)
        self._stays = {name: (come, go) for name, come, go in stays}

    @classmethod
    def always(cls, sheet, come, go):
        """The Calendar in which each household of the SHEET has this stay."""
        return cls([(name, come, go) for name in households(sheet)])

    @property
    def stays(self):
        """The ascending tuple of all STAYs."""
        return tuple(sorted([(name, come, go) for name, (come, go) in self._stays.items()]))

    @property
    def days(self):
        """The ascending tuple of all days on which somebody comes or goes."""
        return tuple(sorted(set([day for stay in self._stays.values() for day in stay])))

    def meet(self, one, other):
        """The first and the last day on which both are there; None if there is none."""
        return _common(self[one], self[other])

    def _later(self, days):
        """All STAYs, so many days later."""
        return [(name, come + days, go + days) for name, (come, go) in self._stays.items()]

    def __call__(self, day, but=()):
        """The set of the names that are there on this day, without those of but."""
        there = [name for name, (come, go) in self._stays.items() if come <= day <= go]
        return tuple(sorted([name for name in there if name not in but]))

    def __getitem__(self, at):
        """The pair (come, go) of the name at."""
        if at not in self._stays:
            raise NoHousehold(at)
        return self._stays[at]

    def __setitem__(self, at, worth):
        """The name at, which may be a new one, has the stay worth, a pair (come, go), from now on."""
        come, go = worth
        if go < come:
            raise BadStay(at)
        self._stays[at] = (come, go)

    def __iter__(self):
        raise TypeError("take the stays of a Calendar")

    def __contains__(self, x):
        return x in self._stays

    def __len__(self):
        return len(self._stays)

    def __bool__(self):
        return bool(self._stays)

    def __eq__(self, other):
        if not isinstance(other, Calendar):
            return NotImplemented
        return self._stays == other._stays

    def __add__(self, other):
        """A new Calendar with all stays as many days later as the number other tells."""
        return Calendar(self._later(other))

    def __iadd__(self, other):
        """All stays of this one are so many days later from now on."""
        self._stays = {name: (come, go) for name, come, go in self._later(other)}
        return self

    def __and__(self, other):
        """A new Calendar of the names whose stays in both have a day in common, with these days."""
        both = [name for name in self._stays if name in other._stays]
        days = {name: _common(self._stays[name], other._stays[name]) for name in both}
        return Calendar([(name, *stay) for name, stay in days.items() if stay is not None])


def _meetings(sheet, calendar):
    """For each pair (one, other) that suits and meets, one less than other, its first and its last day, in a dict."""
    pairs = [(one, other) for one, other in suiting(sheet) if one in calendar and other in calendar]
    met = {(one, other): calendar.meet(one, other) for one, other in pairs}
    return {pair: days for pair, days in met.items() if days is not None}


def _meets_between(days, first, last):
    """Whether one of the days of a pair that meets is from first to last; None is no last day."""
    end = days[1] if last is None else last
    return _common(days, (first, end)) is not None


def meeting_sheet(sheet, calendar, *, first=0, last=None):
    """The SHEET of the same households, in which each wants just those whom it suits and meets from first to last."""
    wants = {name: [] for name in households(sheet)}
    for (one, other), days in _meetings(sheet, calendar).items():
        if _meets_between(days, first, last):
            wants[one].append(other)
            wants[other].append(one)
    return tuple([(name, tuple(sorted(others))) for name, others in wants.items()]), ()


def most_between(sheet, calendar, *, first=0, last=None):
    """How many can move by swaps on the days from first to last."""
    return most_swaps(meeting_sheet(sheet, calendar, first=first, last=last))


def daily_swaps(sheet, calendar):
    """An ascending tuple of triples (day, one, other): swaps by which as many as can be move, whatever the days."""
    best = least_swaps(meeting_sheet(sheet, calendar))
    return tuple(sorted([(calendar.meet(one, other)[0], one, other) for one, other in best]))


def are_daily_swaps(sheet, calendar, thing):
    """Whether thing is such a tuple."""
    met = _meetings(sheet, calendar)
    if not isinstance(thing, tuple) or not all([_is_daily_swap(met, swap) for swap in thing]):
        return False
    movers = [name for day, one, other in thing for name in (one, other)]
    if len(set(movers)) < len(movers) or not ascends(thing):
        return False
    return len(movers) == most_between(sheet, calendar)


def _is_daily_swap(met, thing):
    """Whether thing is a triple (day, one, other), of a pair that meets on this day."""
    if not isinstance(thing, tuple) or len(thing) != 3:
        return False
    day, one, other = thing
    if not is_number(day) or (one, other) not in list(met):
        return False
    come, go = met[(one, other)]
    return come <= day <= go


def latest_start(sheet, calendar):
    """The greatest day such that with no swap ahead of it as many can move as on any days; None if nobody can."""
    most = most_between(sheet, calendar)
    days = [day for day in calendar.days if most_between(sheet, calendar, first=day) == most]
    return days[-1] if most > 0 else None


def earliest_end(sheet, calendar):
    """The least day such that with no swap behind it as many can move as on any days; None if nobody can."""
    most = most_between(sheet, calendar)
    days = [day for day in calendar.days if most_between(sheet, calendar, last=day) == most]
    return days[0] if most > 0 else None


def day_by_day(sheet, calendar, order):
    """The list of the pairs (day, set of those who move on it), if nobody waits who can move."""
    waiting = line_of(order)
    must_be_households(sheet, waiting)
    found = []
    # Behind a day on which all move who can, more can only when somebody comes.
    for day in calendar.days:
        there = calendar(day)
        here = [name for name in waiting if name in there]
        moving = kept(without(sheet, [name for name in households(sheet) if name not in here]), here)
        if moving:
            found.append((day, moving))
            waiting = [name for name in waiting if name not in moving]
    return found


def _ends_apart(sheet, calendar):
    """The list of pairs (day, pair): who meets, by last days, without those who meet on a day that is there already."""
    ends = sorted([(go, come, pair) for pair, (come, go) in _meetings(sheet, calendar).items()])
    found = []
    for go, come, pair in ends:
        if not found or come > found[-1][0]:
            found.append((go, pair))
    return found


def fewest_days(sheet, calendar):
    """The fewest days such that any two households that suit and meet are both there on one of these."""
    return len(_ends_apart(sheet, calendar))


def days_for(sheet, calendar):
    """The ascending tuple of so many such days, each as late as can be, the first one above all."""
    return tuple([day for day, pair in _ends_apart(sheet, calendar)])


def apart(sheet, calendar):
    """The reason that no fewer days do: as many pairs that suit and meet, no two of them on one day."""
    return tuple(sorted([pair for day, pair in _ends_apart(sheet, calendar)]))


def are_apart(sheet, calendar, thing):
    """Whether thing is such a tuple of pairs."""
    met = _meetings(sheet, calendar)
    if not isinstance(thing, tuple) or not all([pair in list(met) for pair in thing]) or not ascends(thing):
        return False
    shared = [one for one in thing for other in thing if one < other and _common(met[one], met[other]) is not None]
    return not shared and len(thing) == fewest_days(sheet, calendar)


def best_day(sheet, calendar):
    """The pair (number, day): the most who can move on one day by rings and rows, and the least such day; or None."""
    names = households(sheet)
    best = None
    # More can than on the day ahead only when somebody comes.
    for day in calendar.days:
        there = calendar(day)
        absent = [name for name in names if name not in there]
        if len(absent) < len(names):
            many = most_any(without(sheet, absent))
            if best is None or many > best[0]:
                best = many, day
    return best
