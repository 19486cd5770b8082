"""Marked games: how many cups of a pool have how many of them."""

from boutstairs.boardsets import board_marks
from boutstairs.cups import made_cup
from boutstairs.gamechances import check_games
from boutstairs.poolsets import few_seated
from boutstairs.polys import poly_times


def marked(pool, games):
    """At k the number of cups that have just k of these games."""
    boards = few_seated(pool)
    told = [game for game in pool.told if game in games]
    found = (0,) * len(told) + (1,)
    for board in boards:
        pairs = []
        for i, x in enumerate(board.losers):
            pairs.extend([(i, j) for j, y in enumerate(board.seats) if (x, y) in games])
        found = poly_times(found, board_marks(board.guards, board.strengths, pairs))
    return found


def marks(pool, games):
    """At k the number of cups that have just k of some games."""
    check_games(pool.field.n, games)
    return marked(pool, games)


def agree(pool, cup):
    """At k the number of cups that have just k games of this cup."""
    made_cup(pool.field, cup)
    return marked(pool, [(x, y) for x, (r, y) in enumerate(cup) if r > 0])


def upsets(pool):
    """At k the number of cups in which just k games are won by the side of less strength."""
    strengths = pool.field.strengths
    sides = range(pool.field.n)
    return marked(pool, [(x, y) for x in sides for y in sides if strengths[y] < strengths[x]])
