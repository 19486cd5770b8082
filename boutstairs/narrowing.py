"""Narrowing pools, and what is in two of them."""

from boutstairs.checks import check_side
from boutstairs.errors import NoGame, NoRest, TooFew, Unlike
from boutstairs.fieldlooks import can_beat
from boutstairs.fits import short_side, sides_through
from boutstairs.poolboards import board_of, boards_of, fillings_with, fillings_without
from boutstairs.pools import Pool, check_pool_round, size


def told_anew(pool, told):
    """The pool with these told games, in any order, a game perhaps twice."""
    return Pool(pool.field, pool.exits, pool.halls, tuple(sorted(set(told))))


def fixed(pool, x, y):
    """The pool of the cups in which x loses to y."""
    check_side(pool.field.n, x)
    check_side(pool.field.n, y)
    r = pool.exits[x]
    if r == 0 or fillings_with(board_of(pool, r), ((x, y),)) == 0:
        raise NoGame((x, y))
    return told_anew(pool, pool.told + ((x, y),))


def freed(pool, x):
    """The pool without the told game that x loses."""
    check_side(pool.field.n, x)
    told = [game for game in pool.told if game[0] != x]
    if len(told) == len(pool.told):
        raise NoGame((x, -1))
    return told_anew(pool, told)


def rested(pool, r, y):
    """The pool of the cups in which y rests in round r."""
    check_pool_round(pool, r)
    check_side(pool.field.n, y)
    if y not in sides_through(pool.exits, r) or fillings_without(board_of(pool, r), y) == 0:
        raise NoRest((r, y))
    hall = tuple([z for z in pool.halls[r - 1] if z != y])
    return Pool(pool.field, pool.exits, pool.halls[:r - 1] + (hall,) + pool.halls[r:], pool.told)


def can_be_told(pool):
    """Whether the told games can be played together, by sides of the halls."""
    beaten = [(pool.exits[x], y) for x, y in pool.told]
    if len(set([x for x, _ in pool.told])) < len(beaten) or len(set(beaten)) < len(beaten):
        return False
    return all(y in pool.halls[r - 1] for r, y in beaten)


def both_pools(one, two):
    """The pool of the cups that are in both pools; None if none is."""
    if (one.field.strengths, one.field.guards) != (two.field.strengths, two.field.guards):
        raise Unlike(0)
    if one.exits != two.exits:
        raise Unlike(1)
    halls = [tuple([y for y in first if y in second]) for first, second in zip(one.halls, two.halls)]
    found = told_anew(Pool(one.field, one.exits, tuple(halls), ()), one.told + two.told)
    return found if can_be_told(found) and size(found) > 0 else None


def moved(pool, field):
    """The pool with the same exits, halls and told games in another field."""
    if field.n != pool.field.n:
        raise Unlike(field.n)
    for x, y in pool.told:
        if not can_beat(field, y, x):
            raise NoGame((x, y))
    found = Pool(field, pool.exits, pool.halls, pool.told)
    for r, board in enumerate(boards_of(found), start=1):
        x = short_side(field, board.losers, board.seats)
        if x is not None:
            raise TooFew((r, x))
    return found
