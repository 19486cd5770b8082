"""Cups that are played from seats, and the seats of a cup."""

from boutstairs.checks import check_halving
from boutstairs.cuplooks import last_round, plan_of, round_losers
from boutstairs.cups import STAYS
from boutstairs.errors import NotFull, Undecided
from boutstairs.fieldlooks import decided
from boutstairs.plans import is_full
from boutstairs.seatforms import check_seats


def cup_of_seats(field, seats):
    """The cup in which neighbours play, each game won by the side that winner_of names."""
    check_halving(field.n)
    check_seats(seats, field.n)
    pairs = [STAYS] * field.n
    left = list(seats)
    r = 1
    while len(left) > 1:
        ahead = []
        for u, v in zip(left[::2], left[1::2]):
            winner = decided(field, u, v)
            if winner is None:
                raise Undecided((u, v))
            # Two sides less the winner is the loser.
            pairs[u + v - winner] = (r, winner)
            ahead.append(winner)
        left = ahead
        r = r + 1
    return tuple(pairs)


def seats_of(field, cup):
    """The seats in which each winner's block stands left of the loser's."""
    check_halving(field.n)
    plan = plan_of(field, cup)
    if not is_full(field.n, plan):
        raise NotFull(0)
    blocks = [(x,) for x in range(field.n)]
    for r in range(1, last_round(cup) + 1):
        for x in round_losers(cup, r):
            blocks[cup[x][1]] = blocks[cup[x][1]] + blocks[x]
    return blocks[cup.index(STAYS)]
