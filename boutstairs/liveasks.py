"""Asking a live cup: its pool, and whether and how the cup goes home to the mark."""

from boutstairs.errors import AtHome, NotSame
from boutstairs.gamechances import game_chance
from boutstairs.papers import paper
from boutstairs.pools import Pool, pool_of
from boutstairs.rule import fewest, run_between
from boutstairs.ways import same


def pool_now(live):
    """The pool of all cups that are same with the cup and have its played games."""
    cup = live.cup()
    pool = pool_of(live.field(), cup, loose=live.loose())
    told = tuple([(x, cup[x][1]) for x in live.played()])
    return Pool(pool.field, pool.exits, pool.halls, told)


def strayed(live):
    """The played games (loser, winner) that are no games of the mark, ascending."""
    mark = live.marked()
    return [(x, live.cup()[x][1]) for x in live.played() if mark[x][1] != live.cup()[x][1]]


def can_home(live):
    """Whether the cup can become the mark by deeds that leave the played games."""
    return same(live.field(), live.cup(), live.marked(), loose=live.loose()) and not strayed(live)


def why_not(live):
    """What shows that the cup cannot go home."""
    found = paper(live.field(), live.cup(), live.marked(), loose=live.loose())
    if found is not None:
        return found
    games = strayed(live)
    if not games:
        raise AtHome(0)
    return ("played",) + games[0]


def check_home(live):
    """Refuse a live cup that cannot go home."""
    if not can_home(live):
        raise NotSame(0)


def way_home(live):
    """A run of the fewest deeds from the cup to the mark."""
    check_home(live)
    return run_between(live.field(), live.cup(), live.marked(), loose=live.loose())


def left(live):
    """How few deeds lead from the cup to the mark."""
    check_home(live)
    return fewest(live.field(), live.cup(), live.marked(), loose=live.loose())


def chance(live, x, y):
    """The chance that x loses to y in the pool of the live cup."""
    return game_chance(pool_now(live), x, y)
