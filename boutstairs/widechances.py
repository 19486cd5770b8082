"""Chances of games, common games and paths, all cups of a wide class being equally likely."""

from boutstairs.boardchance import boards_chance
from boutstairs.checks import check_side
from boutstairs.cuplooks import last_round, round_losers
from boutstairs.errors import BadPair
from boutstairs.fieldlooks import can_beat
from boutstairs.gamechances import NEVER, SURE
from boutstairs.shares import plus, share, times
from boutstairs.widecounts import game_winners, round_choices
from boutstairs.widecups import wide_made


def check_wide_sides(field, many, cup, x, y):
    """Refuse what are not a wide cup and two sides."""
    wide_made(field, many, cup)
    check_side(field.n, x)
    check_side(field.n, y)


def chance_in_row(field, many, row, x, y):
    """The chance that x loses to y, who wins in its round; row has the pairs (loser, choices) of that round."""
    found = share(many, 1)
    for z, room in row:
        if z == x:
            return times(found, (1, room)) if can_beat(field, y, x) else NEVER
        if can_beat(field, y, z):
            found = times(found, share(room - 1, room))
    return NEVER


def wide_chance(field, many, cup, x, y):
    """The chance that x loses to y."""
    check_wide_sides(field, many, cup, x, y)
    r = cup[x][0]
    if r == 0 or y not in game_winners(cup, r):
        return NEVER
    return chance_in_row(field, many, round_choices(field, many, cup, r), x, y)


def wide_together(field, many, cup, x, z):
    """The chance that x and z lose in one game."""
    check_wide_sides(field, many, cup, x, z)
    if x == z:
        raise BadPair(x)
    r = cup[x][0]
    if r == 0 or cup[z][0] != r or many == 1:
        return NEVER
    losing = round_losers(cup, r)
    guards = tuple([field.guards[loser] for loser in losing])
    # Each winner has a seat for each of its losers.
    seats = [field.strengths[y] for y in game_winners(cup, r) for _ in range(many)]
    found = NEVER
    for first in range(0, len(seats), many):
        pairs = ((losing.index(x), first), (losing.index(z), first + 1))
        chance = boards_chance(guards, tuple(seats), pairs)
        found = plus(found, times(chance, share(many * (many - 1), 1)))
    return found


def wide_above(field, many, cup, x, y):
    """The chance that y is on the path of x."""
    check_wide_sides(field, many, cup, x, y)
    above = [NEVER] * field.n
    # Exits rise along a path, so whoever loses later comes first.
    for r in range(last_round(cup), 0, -1):
        row = round_choices(field, many, cup, r)
        winners = game_winners(cup, r)
        for loser, _ in row:
            for z in winners:
                chance = chance_in_row(field, many, row, loser, z)
                above[loser] = plus(above[loser], times(chance, SURE if z == y else above[z]))
    return above[x]
