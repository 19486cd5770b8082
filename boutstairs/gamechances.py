"""Chances of games and rests, all cups of a pool being equally likely."""

from boutstairs.boards import board_count
from boutstairs.checks import check_side
from boutstairs.errors import BadPair
from boutstairs.fits import sides_through
from boutstairs.poolboards import board_of, boards_of, fillings_with, fillings_without
from boutstairs.pools import check_pool_round, size
from boutstairs.polys import poly_times
from boutstairs.shares import plus, share

SURE = (1, 1)
NEVER = (0, 1)


def fillings_of(board):
    """How many fillings the board has."""
    return board_count(board.guards, board.strengths)


def chance_of_game(pool, x, y):
    """The chance that x loses to y, both known to be sides."""
    r = pool.exits[x]
    if r == 0:
        return NEVER
    board = board_of(pool, r)
    return share(fillings_with(board, ((x, y),)), fillings_of(board))


def beater_chances(pool, x):
    """Pairs (y, chance) for all sides to which x may lose, ascending."""
    r = pool.exits[x]
    if r == 0:
        return []
    board = board_of(pool, r)
    total = fillings_of(board)
    counts = [(y, fillings_with(board, ((x, y),))) for y in pool.halls[r - 1]]
    return [(y, share(many, total)) for y, many in counts if many > 0]


def game_chance(pool, x, y):
    """The chance that x loses to y."""
    check_side(pool.field.n, x)
    check_side(pool.field.n, y)
    return chance_of_game(pool, x, y)


def check_games(n, games):
    """Refuse pairs that are not ascending ones of two different sides."""
    last = (-1, -1)
    for index, (x, y) in enumerate(games):
        if not 0 <= x < n or not 0 <= y < n or x == y or (x, y) <= last:
            raise BadPair(index)
        last = (x, y)


def told_chance(pool, games):
    """The chance that all these games are played."""
    check_games(pool.field.n, games)
    total = 1
    for r, board in enumerate(boards_of(pool), start=1):
        total = total * fillings_with(board, [(x, y) for x, y in games if pool.exits[x] == r])
    if any(pool.exits[x] == 0 for x, _ in games):
        return NEVER
    return share(total, size(pool))


def rest_chance(pool, r, y):
    """The chance that y rests in round r."""
    check_pool_round(pool, r)
    check_side(pool.field.n, y)
    if y not in sides_through(pool.exits, r):
        return NEVER
    board = board_of(pool, r)
    return share(fillings_without(board, y), fillings_of(board))


def mean_number(chances):
    """The mean of a number that is k with the chance at index k."""
    total = NEVER
    for k, (n, d) in enumerate(chances):
        total = plus(total, share(k * n, d))
    return total


def wins_chances(pool, y):
    """At k the chance that y wins just k games."""
    check_side(pool.field.n, y)
    counts = (1,)
    total = 1
    for r, board in enumerate(boards_of(pool), start=1):
        if y in sides_through(pool.exits, r):
            many = fillings_of(board)
            resting = fillings_without(board, y)
            counts = poly_times(counts, (resting, many - resting))
            total = total * many
    return tuple([share(number, total) for number in counts])


def wins_mean(pool, y):
    """The mean of how many games y wins."""
    return mean_number(wins_chances(pool, y))


def played_chances(pool, x):
    """For each side the chance that x plays it, whoever loses."""
    return [plus(chance_of_game(pool, x, y), chance_of_game(pool, y, x)) for y in range(pool.field.n)]


def may_play(pool, x):
    """All sides that x plays in some cup of the pool."""
    check_side(pool.field.n, x)
    return tuple([y for y, chance in enumerate(played_chances(pool, x)) if chance != NEVER])


def sure_play(pool, x):
    """All sides that x plays in each cup of the pool."""
    check_side(pool.field.n, x)
    return tuple([y for y, chance in enumerate(played_chances(pool, x)) if chance == SURE])
