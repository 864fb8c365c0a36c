"""An exchange that goes on: households join and leave, homes are offered and closed, and PLANs are done."""

from crosshomes.data import (
    homes, households, joined_by, must_be_households, opened, plain_sheet, wanted_homes, wishes_by, without,
)
from crosshomes.errors import BadBound, BadOrder, NoHome, NoHousehold, Stopped, Taken
from crosshomes.giving import best_given
from crosshomes.packing import all_rings, best_packed
from crosshomes.plans import Plan, left_of, plan_by


def _must_be_bound(thing):
    """Raises BadBound for all but 2, 3 and None."""
    if thing is not None and not (isinstance(thing, int) and thing in (2, 3)):
        raise BadBound(thing)


def _must_be_order(sheet, names):
    """Raises NoHousehold for the first name that is none or stands there a second time, then BadOrder if one lacks."""
    known = households(sheet)
    for at, name in enumerate(names):
        if name not in known or name in names[:at]:
            raise NoHousehold(name)
    if len(names) < len(known):
        raise BadOrder()


def _values(sheet, order):
    """For each household a number for each home that it may have; the greatest sum is that of the next PLAN alone.

    Of two PLANs the sum is greater if more move; of as many, if the earliest in the order that moves by just one does
    so by this one; and if just the same move, if the tuple of their homes is less.
    """
    places = homes(sheet)
    wants = wanted_homes(sheet)
    # The place of a home is a digit, and the first household has the highest one: so the numbers compare as tuples do.
    digits = {}
    digit = 1
    for name in reversed(list(wants)):
        digits[name] = digit
        digit = digit * len(places)
    # To move counts as much for one household as for all those behind it in the order, and one more.
    worths = {name: (1 << len(order)) + (1 << (len(order) - 1 - at)) for at, name in enumerate(order)}
    values = {}
    for name in wants:
        moving = {home: digit * worths[name] for home in wants[name]}
        values[name] = {home: moving.get(home, 0) - digits[name] * places.index(home) for home in (name, *wants[name])}
    return values


def _next_plan(sheet, order, bound):
    """The PLAN that is next."""
    values = _values(sheet, order)
    if bound is None:
        held, _ = best_given(values)
        return plan_by(held)
    rated = [(_gain(values, names), (names, end)) for names, end in all_rings(sheet, bound)]
    _, rings = best_packed(rated)
    return Plan(*rings)


def _gain(values, ring):
    """By how much the sum grows if the households of a ring move so, and do not keep their homes."""
    return sum([values[name][home] - values[name][name] for name, home in zip(ring, (*ring[1:], ring[0]))])


class Exchange:
    """Households and empty homes, whose order and bound tell which PLAN is next; each deed can be taken back."""

    def __init__(self, sheet=((), ()), *, bound=2):
        _must_be_bound(bound)
        # Nothing in a state changes: so each deed puts another one in its place, and undo has those that were.
        self._now = plain_sheet(sheet), households(sheet), bound, ()
        self._past = ()

    @property
    def sheet(self):
        """The SHEET as it is now."""
        return self._now[0]

    @property
    def order(self):
        """The tuple of all households, in the order of joining if no other one has been set."""
        return self._now[1]

    @order.setter
    def order(self, value):
        self.change("order", value)

    @property
    def bound(self):
        """2 for swaps alone, 3 for rings of two and three, None for rings and rows of any length."""
        return self._now[2]

    @bound.setter
    def bound(self, value):
        self.change("bound", value)

    @property
    def plans(self):
        """The tuple of the PLANs that were done so far."""
        return self._now[3]

    def _becomes(self, sheet, order, bound, plans):
        """Ends a deed: from now on this is the state."""
        self._past = (*self._past, self._now)
        self._now = sheet, order, bound, plans

    def change(self, word, value):
        """Sets the property of this word, "bound" or "order", to the value."""
        sheet, order, bound, plans = self._now
        if word == "bound":
            _must_be_bound(value)
            self._becomes(sheet, order, value, plans)
        else:
            _must_be_order(sheet, value)
            self._becomes(sheet, tuple(value), bound, plans)

    def leave(self, name):
        """The household leaves, with its home."""
        sheet, order, bound, plans = self._now
        rest = without(sheet, (name,))
        self._becomes(rest, tuple([other for other in order if other != name]), bound, plans)

    def offer(self, home):
        """There is one more empty home."""
        sheet, order, bound, plans = self._now
        self._becomes(opened(sheet, home), order, bound, plans)

    def close(self, home):
        """This empty home is there no more."""
        (rows, empties), order, bound, plans = self._now
        if home not in empties:
            raise NoHome(home)
        self._becomes((rows, tuple([other for other in empties if other != home])), order, bound, plans)

    def plan(self):
        """The PLAN that is next."""
        sheet, order, bound, _ = self._now
        return _next_plan(sheet, order, bound)

    def run(self, *, gone=()):
        """Does the PLAN that is next, without those of the set gone, and returns it."""
        sheet, order, bound, plans = self._now
        must_be_households(sheet, gone)
        plan = left_of(self.plan(), gone)
        rows, empties = without(sheet, plan.movers)
        open_now = [*[home for home in empties if home not in plan.ends], *plan.left]
        waiting = tuple([name for name in order if name not in plan])
        self._becomes((rows, tuple(sorted(open_now))), waiting, bound, (*plans, plan))
        return plan

    def _done(self, deed):
        """Does one deed of an attempt, and returns what it returns."""
        word, value = deed[0], deed[-1]
        if word == "run":
            return self.run(gone=value)
        if word == "want":
            self[deed[1]] = value
        elif word == "leave":
            self.leave(value)
        elif word == "offer":
            self.offer(value)
        elif word == "close":
            self.close(value)
        else:
            self.change(word, value)
        return None

    def _tried(self, deed):
        """What one deed returns, and None; if it raises an error, None and the pair (name of its class, its value)."""
        try:
            return self._done(deed), None
        except NoHousehold as unknown:
            return None, ("NoHousehold", unknown.name)
        except NoHome as missing:
            return None, ("NoHome", missing.home)
        except Taken as used:
            return None, ("Taken", used.name)
        except BadBound as wrong:
            return None, ("BadBound", wrong.bound)
        except BadOrder:
            return None, ("BadOrder", None)

    def attempt(self, deeds):
        """Does all these deeds as one, and returns the tuple of what they return; or none, and raises Stopped."""
        now, past = self._now, self._past
        told = []
        for number, deed in enumerate(deeds):
            returned, failed = self._tried(deed)
            if failed is not None:
                self._now, self._past = now, past
                word, value = failed
                raise Stopped(number, word, value)
            told.append(returned)
        self._past = (*past, now)
        return tuple(told)

    def undo(self):
        """Takes back the last deed that is not taken back; returns whether there is one."""
        if not self._past:
            return False
        self._now = self._past[-1]
        self._past = self._past[:-1]
        return True

    def twin(self):
        """An Exchange in the same state, also for undo, that shares nothing with this one."""
        other = Exchange()
        other._now, other._past = self._now, self._past
        return other

    def __getitem__(self, at):
        """The set of all names that the household at wants."""
        must_be_households(self._now[0], (at,))
        return wishes_by(self._now[0])[at]

    def __setitem__(self, at, worth):
        """The household at wants the names of the set worth from now on; if it is none, it joins."""
        sheet, order, bound, plans = self._now
        others = without(sheet, (at,)) if at in order else sheet
        line = order if at in order else (*order, at)
        self._becomes(joined_by(others, at, worth), line, bound, plans)

    def __iter__(self):
        raise TypeError("take the order of an Exchange")

    def __contains__(self, x):
        return x in self._now[1]

    def __len__(self):
        return len(self._now[1])

    def __eq__(self, other):
        if not isinstance(other, Exchange):
            return NotImplemented
        return self._now == other._now
