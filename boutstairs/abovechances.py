"""Chances of paths and boughs, all cups of a pool being equally likely."""

from boutstairs.checks import check_side
from boutstairs.fits import sides_losing
from boutstairs.gamechances import NEVER, SURE, beater_chances, mean_number
from boutstairs.shares import plus, times


def last_losers(pool):
    """The sides that lose, those of late rounds first, so that a side comes behind all its beaters."""
    return [x for r in range(len(pool.halls), 0, -1) for x in sides_losing(pool.exits, r)]


def above_chances(pool, y):
    """For each side the chance that y is on its path."""
    found = [NEVER] * pool.field.n
    for x in last_losers(pool):
        for z, chance in beater_chances(pool, x):
            found[x] = plus(found[x], times(chance, SURE if z == y else found[z]))
    return found


def above_chance(pool, x, y):
    """The chance that y is on the path of x."""
    check_side(pool.field.n, x)
    check_side(pool.field.n, y)
    return above_chances(pool, y)[x]


def depth_chances(pool, x):
    """At d the chance that the path of x has just d sides."""
    check_side(pool.field.n, x)
    rows = [[SURE]] * pool.field.n
    for z in last_losers(pool):
        beaters = beater_chances(pool, z)
        row = [NEVER] * (1 + max([len(rows[y]) for y, _ in beaters]))
        for y, chance in beaters:
            for d, part in enumerate(rows[y], start=1):
                row[d] = plus(row[d], times(chance, part))
        rows[z] = row
    return tuple(rows[x])


def depth_mean(pool, x):
    """The mean of how many sides the path of x has."""
    return mean_number(depth_chances(pool, x))


def bough_mean(pool, y):
    """The mean of how many sides the bough of y has, itself included."""
    check_side(pool.field.n, y)
    total = SURE
    for chance in above_chances(pool, y):
        total = plus(total, chance)
    return total
