"""Texts that are told and read again, and texts bent in one or two places, beside a plain reading; [13] and [14].

The plain reading asks regular expressions for the form, and then for what may stand there.
"""

import itertools
import random
import re
import unittest

from crosshomes.desk import answers
from crosshomes.errors import BadLine, BadText
from crosshomes.exchange import Exchange
from crosshomes.plans import Plan
from crosshomes.texts import plan_in, sheet_in, sheet_text
from tests.helper import all_moves, plain_best, plain_parts_of, raised, random_sheets
from tests.plain_exchange import PlainExchange

NAME = "[a-z]{1,8}"
ROW = re.compile(f"({NAME}):((?: {NAME})*)")
EMPTIES = re.compile(f"\\+((?: {NAME})+)")
PART = re.compile(f"{NAME}(?:>{NAME})+")
SET = f"(?:-|{NAME}(?:,{NAME})*)"
REQUEST = re.compile(
    f"(want) ({NAME}) ({SET})|(leave|offer|close) ({NAME})|(bound) (2|3|any)|(order)((?: {NAME})*)"
    f"|(plan|who|homes|undo)|(run|most)(?: without ({SET}))?"
)


def ascends(names):
    return list(names) == sorted(set(names))


def plain_sheet_in(lines):
    """The SHEET of these lines, or the number of the first wrong one."""
    rows, empties = [], None
    for number, line in enumerate(lines):
        row, end = ROW.fullmatch(line), EMPTIES.fullmatch(line)
        if empties is not None or not (row or end):
            return number
        names = [name for name, _ in rows]
        if row:
            name, wants = row[1], tuple(row[2].split())
            if not ascends([*names, name]) or not ascends(wants) or name in wants:
                return number
            rows.append((name, wants))
        else:
            empties = tuple(end[1].split())
            if not ascends(empties) or set(empties) & set(names):
                return number
    return tuple(rows), empties or ()


def plain_plan_in(text):
    """The PARTs of the Plan with just this text; None if there is none."""
    if text == "-":
        return ()
    found = []
    for part in text.split("; "):
        if not PART.fullmatch(part):
            return None
        *names, last = part.split(">")
        ring = last == names[0]
        if len(set(names)) < len(names) or (ring and (len(names) < 2 or names[0] != min(names))) or (not ring and last in names):
            return None
        found.append((tuple(names), "" if ring else last))
    standing = [name for names, end in found for name in (*names, end) if name]
    return tuple(found) if ascends(found) and len(set(standing)) == len(standing) else None


def plain_set_in(word):
    """The set that is so written; None if its NAMEs do not ascend."""
    names = () if word == "-" else tuple(word.split(","))
    return names if ascends(names) else None


def plain_request(line):
    """The request in a line, as a deed or a question; None if it is not so written."""
    found = REQUEST.fullmatch(line)
    if not found:
        return None
    words = [word for word in found.groups() if word is not None]
    if words[0] == "want":
        some = plain_set_in(words[2])
        return None if some is None or words[1] in some else ("want", words[1], some)
    if words[0] in ("run", "most"):
        some = plain_set_in(words[1]) if len(words) > 1 else ()
        return None if some is None else (words[0], some)
    if words[0] == "order":
        return "order", tuple(words[1].split())
    if words[0] == "bound":
        return "bound", {"2": 2, "3": 3, "any": None}[words[1]]
    return tuple(words)


def plain_text(parts):
    return "; ".join(">".join([*names, end or names[0]]) for names, end in parts) or "-"


def plain_answer(plain, request):
    state = plain.state()
    if request[0] == "plan":
        return plain_text(sorted(Plan.of(plain_parts_of(state.next())).parts))
    if request[0] == "who":
        return ",".join(sorted(state.next())) or "-"
    if request[0] == "homes":
        return ",".join(sorted([*state.wants, *state.empties])) or "-"
    if request[0] == "undo":
        return "yes" if plain.undo() else "no"
    if request[0] == "most":
        if set(request[1]) - set(state.wants):
            return "refused NoHousehold"
        return str(2 * len(plain_best(state.sheet(), request[1])[0]))
    told = plain.attempt((request,))
    if isinstance(told, tuple):
        return f"refused {told[1]}"
    return "done" if told[0] is None else plain_text(told[0])


def plain_answers(text):
    """The answers, or the number of the first wrong line."""
    lines = text.split("\n")
    at = lines.index("") if "" in lines else len(lines)
    sheet = plain_sheet_in(lines[:at])
    if isinstance(sheet, int):
        return sheet
    requests = [plain_request(line) for line in lines[at + 1:]]
    if at == len(lines) or None in requests:
        return at if at == len(lines) else at + 1 + requests.index(None)
    plain = PlainExchange(sheet)
    return [plain_answer(plain, request) for request in requests]


def bent(chance, text, letters):
    """The text with a change in one place: something more, less, instead or twice, or two that change places."""
    at, end = sorted((chance.randint(0, len(text)), chance.randint(0, len(text))))
    far = min(end, at + 2)
    ways = (
        lambda: text[:at] + chance.choice(letters) + text[at:], lambda: text[:at] + text[at + 1:],
        lambda: text[:at] + chance.choice(letters) + text[at + 1:],
        lambda: text[:at] + text[far:], lambda: text[:end] + text[at:],
        lambda: text[:at] + text[at + 1:at + 2] + text[at:at + 1] + text[at + 2:],
    )
    return chance.choice(ways)()


def changed_lines(chance, text):
    """The text with a line more, less, twice, or in another place."""
    lines = text.split("\n")
    at, other = chance.randrange(len(lines)), chance.randrange(len(lines))
    ways = (
        lambda: [*lines[:at], "", *lines[at:]], lambda: lines[:at] + lines[at + 1:],
        lambda: [*lines[:at], lines[other], *lines[at:]],
        lambda: [*lines[:at], *lines[at + 1:at + 2], *lines[at:at + 1], *lines[at + 2:]], lambda: [*lines, ""],
    )
    return "\n".join(chance.choice(ways)())


class SheetTexts(unittest.TestCase):
    LETTERS = "aabcmz  :+\n\nA1,-\t"

    def check(self, text):
        told = plain_sheet_in(text.split("\n") if text else [])
        if isinstance(told, int):
            self.assertEqual(raised(lambda: sheet_in(text)), (BadLine, {"number": told}))
        else:
            self.assertEqual(sheet_in(text), told)
            self.assertEqual(sheet_text(told), text)
        return isinstance(told, int)

    def test_bent(self):
        chance = random.Random(91)
        wrong = 0
        for sheet in random_sheets(91, 150, 6):
            text = sheet_text(sheet)
            for _ in range(20):
                one = chance.choice((lambda: bent(chance, text, self.LETTERS), lambda: changed_lines(chance, text)))()
                other = bent(chance, one, self.LETTERS)
                for again in (one, other):
                    with self.subTest(text=again):
                        wrong += self.check(again)
        self.assertTrue(3000 < wrong < 5900, wrong)

    def test_all_short_texts(self):
        for many in range(6):
            for text in itertools.product("ab: +\n", repeat=many):
                self.check("".join(text))

    def test_two_lines(self):
        lines = [
            "", "a:", "a: b", "a: b c", "a: c b", "b:", "b: a", "b: b", "+", "+ a", "+ b", "+ c", "+ a b", "+ b a",
            "a", " a:",
        ]
        for many in (1, 2, 3):
            for chosen in itertools.product(lines, repeat=many):
                self.check("\n".join(chosen))


class PlanTexts(unittest.TestCase):
    def check(self, text):
        parts = plain_plan_in(text)
        if parts is None:
            self.assertEqual(raised(lambda: plan_in(text)), (BadText, {}))
        else:
            self.assertEqual((plan_in(text).parts, plan_in(text).text), (parts, text))
        return parts is None

    def test_all_plans_of_five_names(self):
        plans = [Plan.of(plain_parts_of(moves)) for moves in all_moves("abcde")]
        self.assertEqual(len({plan.text for plan in plans}), len(plans))
        for plan in plans:
            self.assertEqual(plan_in(plan.text), plan)
            self.assertEqual(plain_plan_in(plan.text), plan.parts)

    def test_all_short_texts(self):
        """Beside all Plans of these names, whose texts are known."""
        known = {Plan.of(plain_parts_of(moves)).text for moves in all_moves("abc")}
        found = 0
        for many in range(9):
            for words in itertools.product("abc", repeat=many):
                for signs in itertools.product((">", "; "), repeat=max(0, many - 1)):
                    text = "".join(word + sign for word, sign in zip(words, (*signs, "")))
                    if many < 6 or text in known:
                        found += not self.check(text)
                        self.assertEqual(raised(lambda: plan_in(text)) is None, text in known)
        # The text of the Plan without PARTs is none of these.
        self.assertEqual(found, len(known) - 1)

    def test_all_signs(self):
        for many in range(7):
            for text in itertools.product("ab>; -", repeat=many):
                self.check("".join(text))

    def test_bent(self):
        chance = random.Random(92)
        plans = [Plan.of(plain_parts_of(moves)) for moves in chance.sample(all_moves("abcde"), 300)]
        wrong = 0
        for plan in plans:
            text = plan.text.replace("a", "ann").replace("e", "eve")
            for _ in range(10):
                one = bent(chance, text, "abcde>>;; -n\n")
                for again in (one, bent(chance, one, "abcde>>;; -n\n")):
                    with self.subTest(text=again):
                        wrong += self.check(again)
        self.assertTrue(3000 < wrong < 5900, wrong)


class DeskTexts(unittest.TestCase):
    NAMES = ("a", "b", "c", "d", "x", "y")
    LETTERS = "aabcdxy  ,,-:+\n\n23AZ"

    def drawn_request(self, chance):
        names = [name for name in self.NAMES if chance.random() < 0.4]
        some = ",".join(names) or "-"
        name = chance.choice(self.NAMES)
        line = " ".join(["order", *chance.sample(self.NAMES[:4], chance.choice((0, 3, 4, 4)))])
        wants = ",".join(other for other in names if other != name) or "-"
        return chance.choice((
            f"want {name} {wants}", f"want {name} {wants}", f"leave {name}", f"offer {name}", f"close {name}",
            f"bound {chance.choice(('2', '3', 'any', 'any'))}", line,
            "plan", "plan", "run", f"run without {some}", "who", "homes", "most", f"most without {some}", "undo",
            "undo",
        ))

    def drawn_text(self, chance):
        names = sorted(chance.sample(self.NAMES[:4], chance.randint(0, 4)))
        rows = [(name, tuple(other for other in self.NAMES if other != name and chance.random() < 0.5)) for name in names]
        sheet = tuple(rows), chance.choice(((), ("x",), ("x", "y")))
        text = sheet_text(sheet)
        return "\n".join([*([text] if text else []), "", *[self.drawn_request(chance) for _ in range(chance.randint(0, 12))]])

    def check(self, text):
        told = plain_answers(text)
        if isinstance(told, int):
            self.assertEqual(raised(lambda: answers(text)), (BadLine, {"number": told}))
        else:
            self.assertEqual(answers(text), told)
        return isinstance(told, int)

    def test_answers(self):
        chance = random.Random(93)
        seen = set()
        for _ in range(400):
            text = self.drawn_text(chance)
            with self.subTest(text=text):
                self.assertIs(self.check(text), False)
                seen.update(answers(text))
        self.assertLessEqual(
            {"done", "yes", "no", "-", "refused NoHousehold", "refused NoHome", "refused Taken", "refused BadOrder", "0", "2", "4"},
            seen,
        )

    def test_bent(self):
        chance = random.Random(94)
        wrong = 0
        for _ in range(250):
            text = self.drawn_text(chance)
            for _ in range(8):
                one = chance.choice((lambda: bent(chance, text, self.LETTERS), lambda: changed_lines(chance, text)))()
                for again in (one, bent(chance, one, self.LETTERS)):
                    with self.subTest(text=again):
                        wrong += self.check(again)
        self.assertTrue(2000 < wrong < 3900, wrong)

    def test_all_short_texts(self):
        lines = ["", "a:", "b:", "+ a", "plan", "homes", "a", "leave a"]
        for many in range(1, 5):
            for chosen in itertools.product(lines, repeat=many):
                self.check("\n".join(chosen))

    def test_requests_of_few_words(self):
        """Every line of up to four of these words, with single blanks between."""
        words = ["want", "run", "most", "order", "without", "a", "b", "-", "a,b", "b,a", ""]
        for many in range(1, 5):
            for chosen in itertools.product(words, repeat=many):
                line = " ".join(chosen)
                if line:
                    told = raised(lambda: answers(f"a:\n\n{line}"))
                    self.assertEqual(told, (BadLine, {"number": 2}) if plain_request(line) is None else None)

    def test_texts_that_are_told(self):
        """What a desk tells of its PLANs can be read, and is that of an Exchange."""
        for sheet in random_sheets(95, 60, 6):
            for word, bound in (("2", 2), ("3", 3), ("any", None)):
                sheet = sheet[0], sheet[1][:2]
                exchange = Exchange(sheet, bound=bound)
                text = sheet_text(sheet)
                told = answers("\n".join([*([text] if text else []), "", f"bound {word}", "plan", "run", "plan"]))
                plans = [plan_in(one) for one in told[1:]]
                self.assertEqual(plans, [exchange.plan(), exchange.run(), exchange.plan()])


if __name__ == "__main__":
    unittest.main()
