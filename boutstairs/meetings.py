"""Meetings: the game in which two sides, or those that hold them, play each other."""

from boutstairs.boughs import held_by
from boutstairs.checks import check_round, check_side, check_side_row
from boutstairs.cuplooks import last_round
from boutstairs.cups import made_cup
from boutstairs.errors import BadPair


def meet(field, cup, x, y):
    """The game (r, loser, winner) in which x and y meet, or None."""
    made_cup(field, cup)
    check_side(field.n, x)
    check_side(field.n, y)
    if x == y:
        raise BadPair(x)
    for r in range(1, last_round(cup) + 1):
        u = held_by(cup, x, r - 1)
        v = held_by(cup, y, r - 1)
        if cup[u] == (r, v):
            return (r, u, v)
        if cup[v] == (r, u):
            return (r, v, u)
    return None


def keeps_apart(field, cup, sides, r):
    """Whether no two of the sides have one holder after round r."""
    made_cup(field, cup)
    check_side_row(field.n, sides)
    check_round(r, 0, last_round(cup))
    return len(set([held_by(cup, x, r) for x in sides])) == len(sides)
