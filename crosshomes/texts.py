"""Texts: SHEETs and Plans as people write them."""

from crosshomes.data import is_sheet
from crosshomes.errors import BadLine, BadText, Clash
from crosshomes.plans import Plan, is_part


def sheet_text(sheet):
    """A line for each row, and one for the empties if there are any."""
    rows, empties = sheet
    lines = [" ".join([f"{name}:", *wants]) for name, wants in rows]
    if empties:
        lines.append(" ".join(["+", *empties]))
    return "\n".join(lines)


def _with_line(sheet, line):
    """The rows and empties with those of one line more, which may be no SHEET; None if the line is not so written."""
    rows, empties = sheet
    words = line.split(" ")
    names = tuple(words[1:])
    if empties:
        return None
    if words[0] == "+" and names:
        return rows, names
    if words[0].endswith(":"):
        return (*rows, (words[0][:-1], names)), ()
    return None


def sheet_in(text):
    """The SHEET with this text; raises BadLine for the first line that is wrong."""
    lines = text.split("\n") if text else []
    sheet = (), ()
    for number, line in enumerate(lines):
        sheet = _with_line(sheet, line)
        if not is_sheet(sheet):
            raise BadLine(number)
    return sheet


def _part_in(text):
    """The names and the end that one PART's text tells, whatever they are."""
    names = text.split(">")
    end = "" if names[0] == names[-1] else names[-1]
    return tuple(names[:-1]), end


def plan_in(text):
    """The Plan with just this text; raises BadText if there is none."""
    parts = [] if text == "-" else [_part_in(part) for part in text.split("; ")]
    if not all([is_part(part) for part in parts]):
        raise BadText()
    try:
        plan = Plan(*parts)
    except Clash:
        raise BadText() from None
    # The PARTs may stand in another order, and a text that ends with ">" is not that of a ring.
    if plan.text != text:
        raise BadText()
    return plan
