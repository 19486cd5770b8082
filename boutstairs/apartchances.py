"""The chance that sides are kept apart, all cups of a pool being equally likely."""

from boutstairs.checks import check_round, check_side_row
from boutstairs.errors import BadCount, TooMany
from boutstairs.following import moves
from boutstairs.gamechances import fillings_of
from boutstairs.poolboards import board_of
from boutstairs.shares import share

MOST_KEPT = 4
MOST_AROUND = 16


def apart_chance(pool, sides, r):
    """The chance that no two of these 2 to 4 sides have one holder after round r."""
    if not 2 <= len(sides) <= MOST_KEPT:
        raise BadCount(len(sides))
    check_side_row(pool.field.n, sides)
    check_round(r, 0, len(pool.halls))
    if pool.field.n > MOST_AROUND:
        raise TooMany(pool.field.n)
    total = 1
    counts = {sides: 1}
    for s in range(1, r + 1):
        total = total * fillings_of(board_of(pool, s))
        apart = {}
        for _, after, often in moves(pool, s, counts):
            if len(set(after)) == len(after):
                apart[after] = apart.get(after, 0) + often
        counts = apart
    return share(sum(counts.values()), total)
