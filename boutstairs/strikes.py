"""Striking a side off a cup, and entering a new one."""

from boutstairs.checks import MOST_SIDES, check_round, check_side
from boutstairs.cuplooks import last_round, rests, round_losers
from boutstairs.cups import made_cup
from boutstairs.errors import BadGuard, BadSize, BadStrength, IsWinner, NoGame, NoRest
from boutstairs.fieldmakes import beside_fields, kept_field
from boutstairs.fields import MOST, made_field


def pair_without(pair, x, gone):
    """A side's pair when side x is struck off, and perhaps the round that is gone with it."""
    r, y = pair
    # Whoever stays has (0, -1), of which neither number is above.
    return (r - 1 if gone is not None and r > gone else r, y - 1 if y > x else y)


def strike(field, cup, x):
    """The field and the cup without side x."""
    made_cup(field, cup)
    check_side(field.n, x)
    if field.n == 1:
        raise BadSize(1)
    if x in [y for _, y in cup]:
        raise IsWinner(x)
    r = cup[x][0]
    gone = r if r > 0 and round_losers(cup, r) == (x,) else None
    kept = tuple([z for z in range(field.n) if z != x])
    return (kept_field(field, kept), tuple([pair_without(cup[z], x, gone) for z in kept]))


def check_bounds(strength, guard):
    """Refuse a strength, then a guard, that no field has."""
    if not -MOST <= strength <= MOST:
        raise BadStrength(strength)
    if not -MOST <= guard <= MOST:
        raise BadGuard(guard)


def entered(field, cup, strength, guard, r, y):
    """The field and the cup with one more side, which loses in round r to y."""
    made_cup(field, cup)
    check_bounds(strength, guard)
    check_round(r, 1, last_round(cup) + 1)
    check_side(field.n, y)
    if field.n == MOST_SIDES:
        raise BadSize(field.n + 1)
    # In a round behind the last one, those that stay rest.
    if not rests(cup, y, r):
        raise NoRest((r, y))
    if field.strengths[y] < guard:
        raise NoGame((field.n, y))
    return (beside_fields(field, made_field((strength,), (guard,))), cup + ((r, y),))
