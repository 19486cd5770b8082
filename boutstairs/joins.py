"""Joining cups: two side by side, and a last game between two that stay."""

from boutstairs.cuplooks import last_round, round_losers
from boutstairs.cups import STAYS, made_cup
from boutstairs.errors import BadCount, Undecided
from boutstairs.fieldlooks import decided
from boutstairs.fieldmakes import beside_fields, put


def beside(one, first, two, second):
    """The field of the sides of both fields, and the cup of the games of both cups."""
    made_cup(one, first)
    made_cup(two, second)
    field = beside_fields(one, two)
    moved = [(r, y + one.n) if r > 0 else STAYS for r, y in second]
    return (field, first + tuple(moved))


def final(field, cup):
    """The cup with one more round, in which the two sides that stay play."""
    made_cup(field, cup)
    left = round_losers(cup, 0)
    if len(left) != 2:
        raise BadCount(len(left))
    u, v = left
    winner = decided(field, u, v)
    if winner is None:
        raise Undecided((u, v))
    return put(cup, u + v - winner, (last_round(cup) + 1, winner))
