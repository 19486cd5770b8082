"""Histories: cups, each of which comes of the one before it by a deed."""

from boutstairs.checks import check_loose
from boutstairs.cups import is_cup, made_cup
from boutstairs.done import behind, can_do
from boutstairs.errors import BadCount, BadRow, TooMany

MOST_CUPS = 200


def deed_between(field, one, two, loose):
    """The deed that leads from one cup to another one, None if none does."""
    changed = [x for x in range(field.n) if one[x] != two[x]]
    if len(changed) == 1:
        deed = ("shift", changed[0], two[changed[0]][1])
    elif len(changed) == 2:
        deed = ("exchange", changed[0], changed[1])
    else:
        return None
    return deed if can_do(field, one, deed, loose) and behind(one, deed) == two else None


def steps_between(field, cups, loose):
    """The deeds from each cup to the next one, None where none leads there."""
    return [deed_between(field, one, two, loose) for one, two in zip(cups, cups[1:])]


def checked_steps(field, cups, loose):
    """The deeds between the cups of what must be a history."""
    if len(cups) == 0:
        raise BadCount(0)
    if len(cups) > MOST_CUPS:
        raise TooMany(len(cups))
    for cup in cups:
        made_cup(field, cup)
    check_loose(loose)
    steps = steps_between(field, cups, loose)
    if None in steps:
        raise BadRow(steps.index(None))
    return steps


def deeds_between(field, cups, *, loose=()):
    """The deeds from each cup of a history to the next one."""
    return tuple(checked_steps(field, cups, loose))


def history_right(field, cups, *, loose=()):
    """Whether this value, of any form, is a history."""
    check_loose(loose)
    if not isinstance(cups, tuple) or not 1 <= len(cups) <= MOST_CUPS:
        return False
    return all(is_cup(field, cup) for cup in cups) and None not in steps_between(field, cups, loose)


def shortened(field, cups, *, loose=()):
    """The history that is left when no cup stands twice."""
    checked_steps(field, cups, loose)
    last = {}
    for index, cup in enumerate(cups):
        last[cup] = index
    found = []
    at = 0
    while at < len(cups):
        found.append(cups[at])
        at = last[cups[at]] + 1
    return tuple(found)
