"""Pools: all cups of a field with some exits, some halls and some told games."""

from boutstairs.boards import board_count, seat_choices
from boutstairs.checks import check_loose, check_round
from boutstairs.cuplooks import last_round, round_winners
from boutstairs.cups import is_cup, made_cup
from boutstairs.errors import TooFew
from boutstairs.fits import (
    exits_of_records, halls_of_exits, halls_of_records, short_exits, short_records, sides_through)
from boutstairs.poolboards import board_of, boards_of, loser_choices
from boutstairs.polys import product_of


class Pool:
    """Cups with the same exits, whose beaters are of these halls; made by functions of the package alone."""

    def __init__(self, field, exits, halls, told):
        self.field = field
        self.exits = exits
        self.halls = halls
        self.told = told


def pool_of(field, cup, *, loose=()):
    """The pool of all cups that are same with this one."""
    made_cup(field, cup)
    check_loose(loose)
    exits = tuple([r for r, _ in cup])
    halls = []
    for r in range(1, last_round(cup) + 1):
        halls.append(sides_through(exits, r) if r in loose else round_winners(cup, r))
    return Pool(field, exits, tuple(halls), ())


def pool_of_exits(field, exits):
    """The pool of all cups with these exits."""
    short = short_exits(field, exits)
    if short is not None:
        raise TooFew(short)
    return Pool(field, exits, halls_of_exits(exits), ())


def pool_of_records(field, rows):
    """The pool of all cups with these records."""
    short = short_records(field, rows)
    if short is not None:
        raise TooFew(short)
    return Pool(field, exits_of_records(rows), halls_of_records(rows), ())


def check_pool_round(pool, r):
    """Refuse a round that the pool has not."""
    check_round(r, 1, len(pool.halls))


def losers_free(pool, r):
    """The losers of round r without a told game."""
    check_pool_round(pool, r)
    return board_of(pool, r).losers


def hall_free(pool, r):
    """The sides of the hall of round r that win no told game of it."""
    check_pool_round(pool, r)
    return board_of(pool, r).seats


def choices(pool, r):
    """Pairs (loser, choices) of the free losers of round r, by guards descending."""
    check_pool_round(pool, r)
    return tuple(loser_choices(board_of(pool, r)))


def beater_choices(pool, r):
    """Pairs (beater, choices) of the hall of round r by strengths ascending; None unless all of it wins."""
    check_pool_round(pool, r)
    board = board_of(pool, r)
    found = seat_choices(board.guards, board.strengths)
    return None if found is None else tuple([(board.seats[j], many) for j, many in found])


def size(pool):
    """How many cups the pool has."""
    return product_of([board_count(board.guards, board.strengths) for board in boards_of(pool)])


def has_cup(pool, cup):
    """Whether the pool has what is known to be a cup of its field."""
    if tuple([r for r, _ in cup]) != pool.exits:
        return False
    for r, y in cup:
        if r > 0 and y not in pool.halls[r - 1]:
            return False
    return all(cup[x][1] == y for x, y in pool.told)


def holds(pool, cup):
    """Whether this value, of any form, is a cup of the pool."""
    return is_cup(pool.field, cup) and has_cup(pool, cup)
