"""Chances of holders: where a side stands after a round."""

from boutstairs.checks import check_round, check_side
from boutstairs.gamechances import NEVER, SURE, beater_chances
from boutstairs.shares import plus, times


def holder_chances(pool, x, r):
    """Pairs (z, chance that z is the holder of x after round r), by z."""
    check_side(pool.field.n, x)
    check_round(r, 0, len(pool.halls))
    found = {x: SURE}
    for s in range(1, r + 1):
        ahead = {}
        for z, chance in found.items():
            goes = beater_chances(pool, z) if pool.exits[z] == s else [(z, SURE)]
            for y, part in goes:
                ahead[y] = plus(ahead.get(y, NEVER), times(chance, part))
        found = ahead
    return tuple(sorted(found.items()))
