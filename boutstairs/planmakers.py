"""Making and counting plans."""

from boutstairs.checks import HALVING, check_sides
from boutstairs.errors import BadPlan


def halves(n):
    """Rounds that play as many games as they can, until one side is left."""
    found = []
    left = n
    while left > 1:
        found.append(left // 2)
        left = left - left // 2
    return tuple(found)


def full(n):
    """The plan that halves 1, 2, 4, .., 32 sides until one is left."""
    check_sides(n)
    if n not in HALVING:
        raise BadPlan(n)
    return halves(n)


def quick(n):
    """The plan in which each round has as many games as it can."""
    check_sides(n)
    return halves(n)


def byes_first(n):
    """The plan whose first round leaves 1, 2, 4, .., 32 sides, which are halved."""
    check_sides(n)
    kept = max([size for size in HALVING if size <= n])
    if kept == n:
        return halves(n)
    return (n - kept,) + halves(kept)


def ladder(n):
    """The plan of n - 1 rounds of one game."""
    check_sides(n)
    return (1,) * (n - 1)


def plan_count(n):
    """How many plans leave just one of n sides."""
    check_sides(n)
    counts = [0, 1]
    for left in range(2, n + 1):
        counts.append(sum([counts[left - many] for many in range(1, left // 2 + 1)]))
    return counts[n]
