"""Following the holders of some sides round by round, with the numbers of fillings by which they come about."""

from itertools import permutations

from boutstairs.poolboards import board_of, fillings_with


def falls(pool, board, r, losing):
    """Pairs (beaters of these losers of round r, how many fillings give them), if any filling does."""
    hall = list(pool.halls[r - 1])
    found = []
    for beaters in permutations(hall, len(losing)):
        many = fillings_with(board, list(zip(losing, beaters)))
        if many > 0:
            found.append((beaters, many))
    return found


def moves(pool, r, counts):
    """Triples (holders before, holders after, how often) of round r, for holders by how often they came about.

    Holders are ascending tuples; two that have met are one side twice.
    """
    board = board_of(pool, r)
    known = {}
    found = []
    for held, often in counts.items():
        losing = tuple([x for x in held if pool.exits[x] == r])
        if losing not in known:
            known[losing] = falls(pool, board, r, losing)
        for beaters, many in known[losing]:
            goes = dict(zip(losing, beaters))
            found.append((held, tuple(sorted([goes.get(x, x) for x in held])), often * many))
    return found
