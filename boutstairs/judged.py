"""Judging runs of any form."""

from boutstairs.checks import check_loose
from boutstairs.cups import made_cup
from boutstairs.runs import MOST_DEEDS, cups_along


def run_right(field, cup, run, goal, *, loose=()):
    """Whether run, a value of any form, is a run from the cup that leads to goal."""
    made_cup(field, cup)
    check_loose(loose)
    if not isinstance(run, tuple) or len(run) > MOST_DEEDS:
        return False
    found = cups_along(field, cup, run, loose)
    return len(found) == len(run) + 1 and found[-1] == goal
