"""All cups of a plain field by a plan, listed by playing round after round."""

import itertools

from tests.helpers import S


def pairings_of(sides, many):
    """All ways to play so many games among the sides, the lesser side losing: tuples of (loser, winner)."""
    if many == 0:
        return [()]
    if len(sides) < 2 * many:
        return []
    first, others = sides[0], sides[1:]
    found = list(pairings_of(others, many))
    for other in others:
        left = tuple(x for x in others if x != other)
        found.extend(((first, other),) + games for games in pairings_of(left, many - 1))
    return found


def plan_cups(n, plan):
    """All cups of plain(n) that have this plan."""
    begun = [((S,) * n, tuple(range(n)))]
    for r, many in enumerate(plan, start=1):
        ahead = []
        for pairs, left in begun:
            for games in pairings_of(left, many):
                told = dict(games)
                more = tuple((r, told[x]) if x in told else pair for x, pair in enumerate(pairs))
                ahead.append((more, tuple(x for x in left if x not in told)))
        begun = ahead
    return [pairs for pairs, _ in begun]


def plans_of(n):
    """All plans for n sides, those that leave more than one side too."""
    found = [()]
    for many in range(1, n // 2 + 1):
        found.extend((many,) + rest for rest in plans_of(n - many))
    return found


def plain_record(cup, x):
    """What side x does in each round that it is in."""
    last = max(r for r, _ in cup)
    own = cup[x][0]
    row = []
    for r in range(1, (own or last) + 1):
        row.append(-1 if r == own else 1 if (r, x) in cup else 0)
    return tuple(row)


def some_rows(values, most):
    """All tuples of these values with at most so many entries."""
    return [row for many in range(most + 1) for row in itertools.product(values, repeat=many)]
