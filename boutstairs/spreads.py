"""Distances in a pool: how many cups are how far from a cup, and which."""

from boutstairs.cups import made_cup
from boutstairs.errors import BadCount
from boutstairs.poolboards import free_row, open_beaters, told_pairs
from boutstairs.poolranks import check_has_cup
from boutstairs.pools import has_cup
from boutstairs.polys import poly_times
from boutstairs.rule import distance
from boutstairs.shares import plus, share


def balls_ahead(row):
    """For each place of a row of free losers the polynomial of those from there on, and (1,) at the end."""
    found = [(1,)]
    for _, _, many in row[::-1]:
        found.append(poly_times(found[-1], (1, many - 1)))
    return found[::-1]


def coefficient(poly, d):
    """The number of z ** d, 0 where the polynomial has none."""
    return poly[d] if 0 <= d < len(poly) else 0


def balls(pool):
    """At k the number of cups with the distance k from any cup of the pool."""
    return balls_ahead(free_row(pool))[0]


def farthest(pool):
    """The greatest distance of two cups of the pool."""
    return len(balls(pool)) - 1


def mean_fewest(pool):
    """The mean of the distances from a cup to all cups of the pool."""
    total = (0, 1)
    for _, _, many in free_row(pool):
        total = plus(total, share(many - 1, many))
    return total


def closing(cup, pairs, x):
    """The beater by which x closes a ring of the cup and the games that stand in the pairs."""
    place = cup[x]
    while place in pairs:
        place = cup[pairs.index(place)]
    return place[1]


def farthest_cup(pool, cup):
    """The first cup by number of those that are farthest from a cup."""
    check_has_cup(pool, cup)
    pairs = told_pairs(pool)
    for r, x, _ in free_row(pool):
        able = open_beaters(pool, pairs, x)
        ring = closing(cup, pairs, x)
        pairs[x] = (r, min([y for y in able if y != ring], default=ring))
    return tuple(pairs)


def at_distance(pool, cup, d, k):
    """The k-th by number of the cups that have the distance d from a cup."""
    check_has_cup(pool, cup)
    row = free_row(pool)
    ahead = balls_ahead(row)
    if not 0 <= k < coefficient(ahead[0], d):
        raise BadCount(k)
    pairs = told_pairs(pool)
    steps = d
    left = k
    for place, (r, x, _) in enumerate(row, start=1):
        able = open_beaters(pool, pairs, x)
        ring = closing(cup, pairs, x)
        for y in able:
            rest = steps if y == ring else steps - 1
            many = coefficient(ahead[place], rest)
            if left < many:
                pairs[x] = (r, y)
                steps = rest
                break
            left = left - many
    return tuple(pairs)


def distance_rank(pool, cup, other):
    """The number of the other cup among those that are as far from a cup as it is."""
    made_cup(pool.field, cup)
    made_cup(pool.field, other)
    for index, one in enumerate((cup, other)):
        if not has_cup(pool, one):
            raise BadCount(index)
    row = free_row(pool)
    ahead = balls_ahead(row)
    pairs = told_pairs(pool)
    steps = distance(cup, other)
    total = 0
    for place, (_, x, _) in enumerate(row, start=1):
        ring = closing(cup, pairs, x)
        due = other[x][1]
        for y in open_beaters(pool, pairs, x):
            if y < due:
                total = total + coefficient(ahead[place], steps if y == ring else steps - 1)
        steps = steps if due == ring else steps - 1
        pairs[x] = other[x]
    return total
