"""Chances of meetings, all cups of a pool being equally likely."""

from boutstairs.checks import check_side
from boutstairs.errors import BadPair
from boutstairs.following import moves
from boutstairs.gamechances import SURE, fillings_of
from boutstairs.poolboards import boards_of
from boutstairs.shares import plus, share


def check_two(n, x, y):
    """Refuse what are not two different sides."""
    check_side(n, x)
    check_side(n, y)
    if x == y:
        raise BadPair(x)


def games_met(pool, x, y):
    """The chance of each game in which x and y may meet, by game."""
    found = {}
    total = 1
    counts = {(min(x, y), max(x, y)): 1}
    for r, board in enumerate(boards_of(pool), start=1):
        total = total * fillings_of(board)
        met = {}
        apart = {}
        for held, after, often in moves(pool, r, counts):
            winner, other = after
            if winner == other:
                game = (r, held[0] + held[1] - winner, winner)
                met[game] = met.get(game, 0) + often
            else:
                apart[after] = apart.get(after, 0) + often
        for game, often in met.items():
            found[game] = share(often, total)
        counts = apart
    return found


def meet_chances(pool, x, y):
    """At r the chance that x and y meet in round r, at 0 that they never do."""
    check_two(pool.field.n, x, y)
    found = [(0, 1)] * (len(pool.halls) + 1)
    ever = (0, 1)
    for (r, _, _), chance in games_met(pool, x, y).items():
        found[r] = plus(found[r], chance)
        ever = plus(ever, chance)
    found[0] = plus(SURE, share(-ever[0], ever[1]))
    return tuple(found)


def meet_games(pool, x, y):
    """Pairs (game, chance that x and y meet in it), by game."""
    check_two(pool.field.n, x, y)
    return tuple(sorted(games_met(pool, x, y).items()))
