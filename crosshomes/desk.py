"""A desk: requests to an Exchange, a line each, and the answers."""

from crosshomes.data import homes, is_name, is_set
from crosshomes.errors import BadLine, NoHousehold, Stopped
from crosshomes.exchange import Exchange
from crosshomes.swaps import most_swaps
from crosshomes.texts import sheet_in

BOUNDS = {"2": 2, "3": 3, "any": None}


def _set_text(names):
    return ",".join(names) or "-"


def _set_in(text):
    """The set that is so written; None if it is none."""
    names = () if text == "-" else tuple(text.split(","))
    return names if is_set(names) else None


def _request_in(line):
    """The request in this line, a tuple that begins with its word, such as an attempt takes; None if it is none."""
    words = line.split(" ")
    word, rest = words[0], words[1:]
    if word in ("plan", "who", "homes", "undo") and not rest:
        return (word,)
    if word in ("leave", "offer", "close") and len(rest) == 1 and is_name(rest[0]):
        return word, rest[0]
    if word == "bound" and len(rest) == 1 and rest[0] in BOUNDS:
        return word, BOUNDS[rest[0]]
    if word == "order" and all([is_name(name) for name in rest]):
        return word, tuple(rest)
    if word == "want" and len(rest) == 2:
        return _wish_in(rest[0], _set_in(rest[1]))
    if word in ("run", "most"):
        return _without_in(word, rest)
    return None


def _wish_in(name, some):
    if some is None or not is_name(name) or name in some:
        return None
    return "want", name, some


def _without_in(word, rest):
    """The request run or most, with the set that stands behind without, () if none does."""
    if not rest:
        return word, ()
    some = _set_in(rest[1]) if rest[0] == "without" and len(rest) == 2 else None
    return None if some is None else (word, some)


def _answer(exchange, request):
    """The answer to a request."""
    word = request[0]
    if word == "plan":
        return exchange.plan().text
    if word == "who":
        return _set_text(exchange.plan().movers)
    if word == "homes":
        return _set_text(homes(exchange.sheet))
    if word == "most":
        return _answer_most(exchange, request[1])
    if word == "undo":
        return "yes" if exchange.undo() else "no"
    return _answer_deed(exchange, request)


def _answer_most(exchange, some):
    try:
        return str(most_swaps(exchange.sheet, without=some))
    except NoHousehold:
        return "refused NoHousehold"


def _answer_deed(exchange, deed):
    """The answer to a request that is a deed: to run, the text of the PLAN."""
    try:
        told = exchange.attempt((deed,))
    except Stopped as why:
        return f"refused {why.word}"
    return told[0].text if deed[0] == "run" else "done"


def _requests_in(lines, first):
    """The requests in the lines from this one on."""
    found = []
    for number, line in enumerate(lines[first:]):
        request = _request_in(line)
        if request is None:
            raise BadLine(first + number)
        found.append(request)
    return found


def answers(text):
    """The answers to the requests that stand behind the first empty line, of an Exchange with the SHEET ahead of it."""
    lines = text.split("\n")
    parting = lines.index("") if "" in lines else len(lines)
    exchange = Exchange(sheet_in("\n".join(lines[:parting])))
    if parting == len(lines):
        raise BadLine(parting)
    found = []
    for request in _requests_in(lines, parting + 1):
        found.append(_answer(exchange, request))
    return found
