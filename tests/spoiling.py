"""Texts that are spoilt in many ways, and what the forms of [41] say of words and rows."""

import re

from boutstairs.errors import BadText, Refused
from tests.helpers import Case

NUMBER = "(?:0|[1-9][0-9]{0,9})"
SIGNED = "(?:0|-?[1-9][0-9]{0,9})"
SIGNS = ("0", "1", "3", "9", "-", " ", "\n", "x", ".", "\t", "\r", "+", "_", "(", ")", "\u0663", "\u00b2", "\uff11",
         "\u00a0", "w", "r", "l", ";", "\x0b", "\x1c")
WORDS = ("", "0", "1", "2", "00", "01", "007", "-0", "-1", "--1", "+1", "1.", "31", "32", "33", "99", "1000000000",
         "1000000001", "-1000000000", "-1000000001", "9999999999", "10000000000", "00000000000", "9" * 5000,
         "0" * 5000, "-" + "9" * 5000, "told", "hall", "exchange", "shift", "-", ".", "w", "\u0661")


def spoilt_signs(text, step=1):
    """A sign left out, put in or changed; of long texts not everywhere."""
    for at in range(0, len(text) + 1, step):
        yield text[:at] + text[at + 1:]
        for sign in SIGNS:
            yield text[:at] + sign + text[at:]
            yield text[:at] + sign + text[at + 1:]


def spoilt_words(text):
    """A word left out, put in, doubled or changed."""
    rows = text.split("\n")
    for index, row in enumerate(rows):
        words = row.split(" ")
        for at in range(len(words) + 1):
            kinds = [words[:at] + words[at + 1:]]
            for word in WORDS:
                kinds.append(words[:at] + [word] + words[at:])
                kinds.append(words[:at] + [word] + words[at + 1:])
            for kind in kinds:
                yield "\n".join(rows[:index] + [" ".join(kind)] + rows[index + 1:])
        yield "\n".join(rows[:index] + [" ".join(words[::-1])] + rows[index + 1:])
        for changed in (row.upper(), row + " ", " " + row, row.replace(" ", "  ", 1), row.replace(" ", "\t")):
            yield "\n".join(rows[:index] + [changed] + rows[index + 1:])


def spoilt_rows(text):
    """Rows left out, doubled, exchanged, or too many."""
    rows = text.split("\n")
    for index in range(len(rows)):
        yield "\n".join(rows[:index] + rows[index + 1:])
        yield "\n".join(rows[:index])
        yield "\n".join(rows[:index] + [rows[index]] * 2 + rows[index + 1:])
        for other in range(index):
            changed = list(rows)
            changed[index], changed[other] = rows[other], rows[index]
            yield "\n".join(changed)
        for more in ("", "0 0", "-", ".", "w", "told 0 1", "shift 0 1"):
            yield "\n".join(rows[:index] + [more] + rows[index + 1:])
            yield "\n".join(rows[:index] + [more] + rows[index:])
            yield "\n".join(rows + [more] * (index + 1))
    yield text + "\n"
    yield "\n" + text
    yield text.replace("\n", "\r\n")
    yield text.replace("\n", ";")
    yield text + "\n" * 1500


def spoilt(text, step=1):
    """All of these."""
    yield from spoilt_signs(text, step)
    yield from spoilt_words(text)
    yield from spoilt_rows(text)


def numbers(row, most, least=0):
    """The numbers of a row of number words within the bounds, None if it is none."""
    word = SIGNED if least < 0 else NUMBER
    if not re.fullmatch(word + "(?: " + word + ")*", row):
        return None
    found = tuple(int(part) for part in row.split(" "))
    return found if all(least <= number <= most for number in found) else None


def behind(row, word, most, least=0):
    """The numbers behind the word of a row, perhaps none; None if it is no such row."""
    if row == word:
        return ()
    if not row.startswith(word + " "):
        return None
    return numbers(row[len(word) + 1:], most, least)


class TextCase(Case):
    """A test case that compares the reading of spoilt texts with a reading by the test's own rules."""

    def reads_like(self, call, own, text):
        """The call reads the text as `own` does, which returns ("bad", index) or ("good", value)."""
        kind, value = own(text)
        if kind == "bad":
            self.refused(BadText, value, call, text)
        else:
            self.exactly(call(text), value)

    def reads_spoilt(self, call, own, text, step=1):
        """So it is for all that comes of the text when it is spoilt; some of it is good, some is bad."""
        self.reads_like(call, own, text)
        kinds = set()
        for other in spoilt(text, step):
            self.reads_like(call, own, other)
            kinds.add(own(other)[0])
        self.assertIn("bad", kinds)

    def test_errors_stand_under_refused(self):
        self.assertTrue(issubclass(BadText, Refused))
