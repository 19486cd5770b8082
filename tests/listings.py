"""Pools drawn by chance, and their cups listed by what the document says of a pool."""

import itertools
import random

from boutstairs.fieldmakes import margined, plain, ranked
from boutstairs.fields import made_field
from boutstairs.narrowing import fixed, rested
from boutstairs.pools import pool_of, pool_of_exits, pool_of_records
from boutstairs.records import records
from tests.helpers import S


def may(field, y, x):
    """Whether y may beat x."""
    return x != y and field.strengths[y] >= field.guards[x]


def all_exits(cup):
    """The exit of each side."""
    return tuple(r for r, _ in cup)


def through(exits, r):
    """Who comes through a round."""
    return tuple(x for x, last in enumerate(exits) if last == 0 or last > r)


def round_games(pool, r):
    """All ways to play round r of a pool: dicts from losers to beaters."""
    losing = [x for x, last in enumerate(pool.exits) if last == r]
    told = dict(pool.told)
    found = []
    for beaters in itertools.permutations(pool.halls[r - 1], len(losing)):
        games = dict(zip(losing, beaters))
        if all(may(pool.field, y, x) and told.get(x, y) == y for x, y in games.items()):
            found.append(games)
    return found


def listed(pool):
    """All cups of a pool."""
    found = []
    for rounds in itertools.product(*[round_games(pool, r) for r in range(1, max(pool.exits) + 1)]):
        pairs = [S] * len(pool.exits)
        for r, games in enumerate(rounds, start=1):
            for x, y in games.items():
                pairs[x] = (r, y)
        found.append(tuple(pairs))
    return found


def some_field(many, draw):
    """A field: plain, with equal numbers, with low guards, or of numbers without order."""
    kind = draw.randrange(5)
    if kind == 0:
        return plain(many)
    numbers = tuple(draw.randrange(max(2, many // 2)) for _ in range(many))
    if kind == 1:
        return ranked(numbers)
    if kind == 2:
        return margined(numbers, draw.randrange(1, 4))
    if kind == 3:
        return ranked(tuple(draw.sample(range(-9, 9 + many), many)))
    return made_field(numbers, tuple(draw.randrange(-1, max(2, many // 2)) for _ in range(many)))


def some_cup(field, draw):
    """A cup of the field, played by chance until nobody is left to be beaten, or sooner."""
    pairs = [S] * field.n
    left = list(range(field.n))
    r = 0
    while draw.random() < 0.9:
        draw.shuffle(left)
        idle = list(left)
        out = []
        for x in left:
            able = [y for y in idle if may(field, y, x)]
            if x in idle and able and draw.random() < 0.8:
                y = draw.choice(able)
                idle.remove(x)
                idle.remove(y)
                out.append((x, y))
        if not out:
            break
        r += 1
        for x, y in out:
            pairs[x] = (r, y)
            left.remove(x)
    return tuple(pairs)


def some_pool(cup, field, draw):
    """A pool that has the cup, perhaps with told games and rests."""
    last = max(all_exits(cup))
    kind = draw.randrange(4)
    if kind == 0:
        pool = pool_of_exits(field, all_exits(cup))
    elif kind == 1:
        pool = pool_of_records(field, records(field, cup))
    else:
        pool = pool_of(field, cup, loose=tuple(r for r in range(1, last + 3) if draw.random() < 0.6))
    for x, (r, y) in enumerate(cup):
        if r > 0 and draw.random() < 0.2:
            pool = fixed(pool, x, y)
    for r in range(1, last + 1):
        for y in through(pool.exits, r):
            if (r, y) not in cup and draw.random() < 0.2:
                pool = rested(pool, r, y)
    return pool


def some_pools(seed, many, least=1, most=8, limit=400):
    """Pairs (pool, a cup of it), with not more cups in the pool than the limit."""
    draw = random.Random(seed)
    while many > 0:
        field = some_field(draw.randrange(least, most + 1), draw)
        cup = some_cup(field, draw)
        pool = some_pool(cup, field, draw)
        total = 1
        for r in range(1, max(pool.exits) + 1):
            total *= len(round_games(pool, r))
        if total <= limit:
            many -= 1
            yield pool, cup


def picture_of(pool):
    """The four attributes of a pool, the field told by its own."""
    field = pool.field
    return (field.n, field.strengths, field.guards), pool.exits, pool.halls, pool.told
