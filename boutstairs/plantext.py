"""The texts of a plan and of a word."""

from boutstairs.checks import MOST_SIDES
from boutstairs.errors import BadSize, BadText, BadWord, Refused
from boutstairs.plans import made_plan
from boutstairs.textrows import MOST_SMALL, numbers_behind, spaced


def plan_text(n, plan):
    """The text of a plan for n sides."""
    made_plan(n, plan)
    return spaced("plan", (n,) + plan)


def is_plan(n, plan):
    """Whether these numbers are a plan for n sides."""
    try:
        made_plan(n, plan)
    except Refused:
        return False
    return True


def plan_from(text):
    """The pair (n, plan) of a text."""
    found = numbers_behind(text, "plan", 0, MOST_SIDES)
    if found is None or len(found) == 0 or not is_plan(found[0], found[1:]):
        raise BadText(0)
    return (found[0], found[1:])


def word_text(word):
    """The text of a word."""
    if not 1 <= len(word) <= MOST_SIDES:
        raise BadSize(len(word))
    for index, r in enumerate(word):
        if not 0 <= r <= MOST_SMALL:
            raise BadWord(index)
    return spaced("word", word)


def word_from(text):
    """The word of a text."""
    found = numbers_behind(text, "word", 0, MOST_SMALL)
    if found is None or not 1 <= len(found) <= MOST_SIDES:
        raise BadText(0)
    return found
