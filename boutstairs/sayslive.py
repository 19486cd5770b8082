"""Rows of words for a live cup, and its answers."""

from boutstairs.cuptext import cup_text
from boutstairs.errors import BadRow
from boutstairs.fields import MOST
from boutstairs.fieldtext import field_text
from boutstairs.liveasks import can_home, chance, left, pool_now, way_home, why_not
from boutstairs.papertext import paper_text
from boutstairs.pools import size
from boutstairs.runtext import run_text
from boutstairs.textrows import MOST_SMALL, numbers_in, spaced

# How many numbers stand behind each word.
DEEDS = {"exchange": 2, "shift": 2, "play": 1, "flip": 1, "ease": 3, "mark": 0, "undo": 0, "redo": 0}
QUESTIONS = {
    "home": 0, "left": 0, "way": 0, "why": 0, "cup": 0, "field": 0, "chance": 2, "kin": 0, "played": 0}


def numbers_of(words):
    """The numbers of a row's words; None if it is no row that is let."""
    word = words[0]
    if DEEDS.get(word, QUESTIONS.get(word)) != len(words) - 1:
        return None
    if word != "ease":
        return numbers_in(words[1:], 0, MOST_SMALL)
    side = numbers_in(words[1:2], 0, MOST_SMALL)
    bounds = numbers_in(words[2:], -MOST, MOST)
    return None if side is None or bounds is None else side + bounds


def do_deed(live, word, numbers):
    """Do the deed of a word with these numbers."""
    if word == "exchange":
        live.exchange(*numbers)
    elif word == "shift":
        live.shift(*numbers)
    elif word == "play":
        live.play(*numbers)
    elif word == "flip":
        live.flip(*numbers)
    elif word == "ease":
        live.ease(*numbers)
    elif word == "mark":
        live.mark()
    elif word == "undo":
        live.undo()
    else:
        live.redo()


def why_text(why):
    """The text of what keeps a cup from going home."""
    return spaced(why[0], why[1:]) if why[0] == "played" else paper_text(why)


def reply(live, word, numbers):
    """The text that answers a question."""
    if word == "home":
        return "yes" if can_home(live) else "no"
    if word == "left":
        return str(left(live))
    if word == "way":
        return run_text(way_home(live))
    if word == "why":
        return why_text(why_not(live))
    if word == "cup":
        return cup_text(live.field(), live.cup())
    if word == "field":
        return field_text(live.field())
    if word == "chance":
        n, d = chance(live, *numbers)
        return f"{n}/{d}"
    if word == "kin":
        return str(size(pool_now(live)))
    return " ".join([str(x) for x in live.played()]) if live.played() else "-"


def answer(live, row):
    """Do what the row says, and return what there is to say of it."""
    words = row.split(" ")
    numbers = numbers_of(words)
    if numbers is None:
        raise BadRow(row)
    if words[0] in DEEDS:
        do_deed(live, words[0], numbers)
        return "ok"
    return reply(live, words[0], numbers).replace("\n", ";")
