"""Chances in full plans, all cups of a plain field being equally likely."""

from boutstairs.checks import check_round, check_side
from boutstairs.errors import BadPair
from boutstairs.polys import choose
from boutstairs.shares import plus, share

MOST_ROUNDS = 5


def full_wins(k, x):
    """At t the chance that x wins just t games, of 2 ** k sides."""
    check_round(k, 0, MOST_ROUNDS)
    n = 1 << k
    check_side(n, x)
    # To win t games is to be the strongest of 2 ** t sides.
    least = [share(choose(x, (1 << t) - 1), choose(n - 1, (1 << t) - 1)) for t in range(k + 1)]
    least.append((0, 1))
    return tuple([plus(chance, share(-above[0], above[1])) for chance, above in zip(least, least[1:])])


def play_in(n, x, y, h):
    """The chance that x and the stronger side y play in the round of blocks of h sides each."""
    if y < h:
        return (0, 1)
    ways_well = h * choose(x, h - 1) * choose(y - h, h - 1)
    return share(ways_well, (n - 1) * choose(n - 2, h - 1) * choose(n - 1 - h, h - 1))


def full_play(k, x, y):
    """The chances that x and y play each other in the rounds 1 to k, of 2 ** k sides."""
    check_round(k, 0, MOST_ROUNDS)
    n = 1 << k
    check_side(n, x)
    check_side(n, y)
    if x == y:
        raise BadPair(x)
    return tuple([play_in(n, min(x, y), max(x, y), 1 << r) for r in range(k)])
