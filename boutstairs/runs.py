"""Runs: deeds one behind the other."""

from boutstairs.checks import check_loose
from boutstairs.cups import made_cup
from boutstairs.done import behind, can_do, turned
from boutstairs.errors import BadRow, TooMany

MOST_DEEDS = 1000


def check_length(run):
    """Refuse a run of too many deeds."""
    if len(run) > MOST_DEEDS:
        raise TooMany(len(run))


def cups_along(field, cup, run, loose):
    """The cup, and the cups behind the deeds, up to the first deed that is refused."""
    found = [cup]
    for deed in run:
        if not can_do(field, found[-1], deed, loose):
            return found
        found.append(behind(found[-1], deed))
    return found


def checked_cups(field, cup, run, loose):
    """The cup and the cups behind all deeds of what must be a run."""
    made_cup(field, cup)
    check_length(run)
    check_loose(loose)
    found = cups_along(field, cup, run, loose)
    if len(found) <= len(run):
        raise BadRow(len(found) - 1)
    return found


def walked(field, cup, run, *, loose=()):
    """The cup to which the run leads."""
    return checked_cups(field, cup, run, loose)[-1]


def turned_run(field, cup, run, *, loose=()):
    """The run that leads back."""
    found = checked_cups(field, cup, run, loose)
    back = [turned(before, deed) for before, deed in zip(found, run)]
    return tuple(back[::-1])
