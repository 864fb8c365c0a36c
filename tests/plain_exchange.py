"""An exchange in the words of the document and nothing else: all PLANs are tried, and undo does all deeds again."""

from crosshomes.errors import Stopped
from tests.helper import plain_left, plain_part_names, plain_parts_of, plain_plans


class Failure(Exception):
    """A deed that fails, with the name of the error's class and the value that the error keeps."""

    def __init__(self, word, value):
        self.word, self.value = word, value


KNOWN = {}


def plain_next(sheet, order, bound):
    """The moves of the PLAN that is next, by trying all PLANs."""
    asked = (sheet, tuple(order), bound)
    if asked not in KNOWN:
        able = plain_plans(sheet, rows=bound is None)
        if bound is not None:
            able = [moves for moves in able if all(len(names) <= bound for names in plain_part_names(moves))]
        most = max(len(moves) for moves in able)
        best = [moves for moves in able if len(moves) == most]
        for name in order:
            best = [moves for moves in best if name in moves] or best
        KNOWN[asked] = min(best, key=lambda moves: tuple(moves.get(name, name) for name in sorted(order)))
    return KNOWN[asked]


class State:
    """What an exchange has now."""

    def __init__(self, sheet, bound):
        self.wants = {name: tuple(wants) for name, wants in sheet[0]}
        self.empties = set(sheet[1])
        self.order = sorted(self.wants)
        self.bound = bound
        self.plans = []

    def sheet(self):
        return tuple(sorted(self.wants.items())), tuple(sorted(self.empties))

    def known(self, names):
        for name in names:
            if name not in self.wants:
                raise Failure("NoHousehold", name)

    def next(self):
        return plain_next(self.sheet(), self.order, self.bound)

    def leave(self, names):
        for name in names:
            del self.wants[name]
            self.order.remove(name)

    def run(self, gone):
        self.known(gone)
        moves = plain_left(self.next(), gone)
        self.empties -= set(moves.values())
        self.empties |= set(moves) - set(moves.values())
        self.leave(list(moves))
        self.plans.append(tuple(sorted(turned(part) for part in plain_parts_of(moves))))
        return self.plans[-1]

    def set_order(self, names):
        for at, name in enumerate(names):
            if name not in self.wants or name in names[:at]:
                raise Failure("NoHousehold", name)
        if len(names) < len(self.wants):
            raise Failure("BadOrder", None)
        self.order = list(names)

    def do(self, deed):
        word, *given = deed
        if word == "want":
            name, wants = given
            if name in self.empties:
                raise Failure("Taken", name)
            if name not in self.wants:
                self.order.append(name)
            self.wants[name] = tuple(wants)
        elif word == "leave":
            self.known(given)
            self.leave(given)
        elif word == "offer":
            if given[0] in self.empties or given[0] in self.wants:
                raise Failure("Taken", given[0])
            self.empties.add(given[0])
        elif word == "close":
            if given[0] not in self.empties:
                raise Failure("NoHome", given[0])
            self.empties.remove(given[0])
        elif word == "bound":
            if given[0] is not None and given[0] not in (2, 3):
                raise Failure("BadBound", given[0])
            self.bound = given[0]
        elif word == "order":
            self.set_order(given[0])
        else:
            return self.run(given[0])
        return None


def turned(part):
    names, end = part
    at = 0 if end else names.index(min(names))
    return (*names[at:], *names[:at]), end


class PlainExchange:
    """Attempts, all of which are done again from the first one on whenever the state is asked for."""

    def __init__(self, sheet, bound=2, attempts=()):
        self.sheet, self.bound = sheet, bound
        self.attempts = list(attempts)

    def state(self):
        state = State(self.sheet, self.bound)
        for deed in [deed for deeds in self.attempts for deed in deeds]:
            state.do(deed)
        return state

    def attempt(self, deeds):
        """What the deeds return; (number, word, value) if one fails."""
        state, told = self.state(), []
        for number, deed in enumerate(deeds):
            try:
                told.append(state.do(deed))
            except Failure as failure:
                return number, failure.word, failure.value
        self.attempts.append(tuple(deeds))
        return told

    def undo(self):
        there = len(self.attempts) > 0
        self.attempts = self.attempts[:-1]
        return there

    def twin(self):
        return PlainExchange(self.sheet, self.bound, self.attempts)


def tried(exchange, deeds):
    """What an attempt of an Exchange tells, in the form of that of a PlainExchange."""
    try:
        told = exchange.attempt(deeds)
    except Stopped as stop:
        return stop.number, stop.word, stop.value
    return [None if value is None else value.parts for value in told]
