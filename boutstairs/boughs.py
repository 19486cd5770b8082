"""Paths, holders and boughs."""

from boutstairs.checks import check_round, check_side
from boutstairs.cuplooks import comes_through, last_round
from boutstairs.cups import made_cup


def path_from(cup, x):
    """The beater of side x of a cup, the beater of that side, and so on."""
    found = []
    y = cup[x][1]
    while y >= 0:
        found.append(y)
        y = cup[y][1]
    return tuple(found)


def held_by(cup, x, r):
    """The holder of side x of a cup after round r."""
    found = x
    while not comes_through(cup, found, r):
        found = cup[found][1]
    return found


def check_held(field, cup, x, r):
    """Refuse what is no cup, no side of it, or no round from 0 on."""
    made_cup(field, cup)
    check_side(field.n, x)
    check_round(r, 0, last_round(cup))


def path(field, cup, x):
    """The beater of x, the beater of that side, and so on up to a side that stays."""
    made_cup(field, cup)
    check_side(field.n, x)
    return path_from(cup, x)


def holder(field, cup, x, r):
    """The side that comes through all rounds up to r and stands above x."""
    check_held(field, cup, x, r)
    return held_by(cup, x, r)


def bough(field, cup, x):
    """x and all sides that have x on their path."""
    made_cup(field, cup)
    check_side(field.n, x)
    return tuple([z for z in range(field.n) if z == x or x in path_from(cup, z)])


def bough_after(field, cup, x, r):
    """All sides whose holder after round r is x."""
    check_held(field, cup, x, r)
    return tuple([z for z in range(field.n) if held_by(cup, z, r) == x])
