import itertools
import random

from boutstairs.errors import BadPair, BadRound, BadSide
from boutstairs.fieldmakes import plain, ranked
from boutstairs.gamechances import (
    game_chance, may_play, rest_chance, sure_play, told_chance, wins_chances, wins_mean)
from boutstairs.narrowing import fixed, rested
from boutstairs.pools import pool_of, pool_of_exits
from boutstairs.shares import mean, share
from tests.helpers import S, Case
from tests.listings import listed, some_pools

HUGE = 10 ** 300
C = ((1, 4), (1, 5), (1, 6), (1, 7), (2, 6), (2, 7), (3, 7), S)


def part(cups, tells):
    """The share of the cups of which this can be told."""
    return share(len([cup for cup in cups if tells(cup)]), len(cups))


def spread(numbers):
    """The chances of 0, 1, .. among equally likely numbers."""
    return tuple(share(numbers.count(k), len(numbers)) for k in range(max(numbers) + 1))


class Listed(Case):
    def test_games_and_rests(self):
        for pool, _ in some_pools(110, 120, 1, 7, 120):
            cups = listed(pool)
            n = pool.field.n
            for x, y in itertools.product(range(n), repeat=2):
                self.gives(game_chance, (pool, x, y), part(cups, lambda cup: cup[x][1] == y))
            for r in range(1, len(pool.halls) + 1):
                for y in range(n):
                    through = pool.exits[y] == 0 or pool.exits[y] > r
                    expected = part(cups, lambda cup: through and (r, y) not in cup)
                    self.gives(rest_chance, (pool, r, y), expected)

    def test_wins_and_plays(self):
        for pool, _ in some_pools(111, 150, 1, 8, 150):
            cups = listed(pool)
            n = pool.field.n
            for y in range(n):
                numbers = [len([x for x in range(n) if cup[x][1] == y]) for cup in cups]
                self.gives(wins_chances, (pool, y), spread(numbers))
                self.gives(wins_mean, (pool, y), mean(tuple((k, 1) for k in numbers)))
                met = [{x for x in range(n) if cup[x][1] == y or cup[y][1] == x} for cup in cups]
                self.gives(may_play, (pool, y), tuple(sorted(set.union(*met))))
                self.gives(sure_play, (pool, y), tuple(sorted(set.intersection(*met))))

    def test_several_games(self):
        draw = random.Random(112)
        for pool, cup in some_pools(113, 150, 2, 8, 150):
            cups = listed(pool)
            n = pool.field.n
            for _ in range(8):
                one = draw.choice(cups)
                games = {(x, y) for x, (r, y) in enumerate(one) if r > 0 and draw.random() < 0.5}
                if draw.random() < 0.3:
                    x, y = draw.sample(range(n), 2)
                    games.add((x, y))
                games = tuple(sorted(games))
                expected = part(cups, lambda cup: all(cup[x][1] == y for x, y in games))
                self.gives(told_chance, (pool, games), expected)


class Edges(Case):
    def test_examples(self):
        pool = pool_of(plain(8), C)
        self.gives(game_chance, (pool, 0, 4), (1, 4))
        pool = fixed(pool_of_exits(ranked((0, 0, 5, 5)), (1, 1, 0, 0)), 0, 2)
        self.gives(game_chance, (pool, 0, 2), (1, 1))
        self.gives(game_chance, (pool, 0, 3), (0, 1))
        self.gives(game_chance, (pool, 1, 2), (0, 1))
        self.gives(game_chance, (pool, 1, 3), (1, 1))
        self.gives(told_chance, (pool, ((0, 2), (1, 3))), (1, 1))
        self.gives(told_chance, (pool, ((0, 2), (0, 3))), (0, 1))
        self.gives(told_chance, (pool, ((0, 2), (1, 2))), (0, 1))
        self.gives(told_chance, (pool, ((2, 0),)), (0, 1))
        self.gives(sure_play, (pool, 0), (2,))
        self.gives(may_play, (pool, 3), (1,))

    def test_no_games(self):
        for pool in (pool_of(plain(1), (S,)), pool_of_exits(plain(32), (0,) * 32)):
            self.gives(told_chance, (pool, ()), (1, 1))
            self.gives(wins_chances, (pool, 0), ((1, 1),))
            self.gives(wins_mean, (pool, 0), (0, 1))
            self.gives(may_play, (pool, 0), ())
            self.gives(sure_play, (pool, 0), ())
            self.gives(game_chance, (pool, 0, 0), (0, 1))
            self.refused(BadRound, 1, rest_chance, pool, 1, 0)
        self.gives(told_chance, (pool, ((0, 1),)), (0, 1))

    def test_rests(self):
        pool = pool_of(plain(8), ((1, 4),) + (S,) * 7, loose=(1,))
        self.gives(rest_chance, (pool, 1, 4), (6, 7))
        self.gives(rest_chance, (pool, 1, 0), (0, 1))
        self.gives(rest_chance, (rested(pool, 1, 5), 1, 4), (5, 6))
        self.gives(rest_chance, (rested(pool, 1, 5), 1, 5), (1, 1))
        self.gives(rest_chance, (fixed(pool, 0, 4), 1, 4), (0, 1))
        self.gives(rest_chance, (fixed(pool, 0, 4), 1, 5), (1, 1))

    def test_great_pools_come_soon(self):
        field = ranked((0,) * 32)
        wide = pool_of_exits(field, (1,) * 10 + (2,) * 8 + (3,) * 5 + (4, 5, 6, 7) + (0,) * 5)
        half = pool_of(plain(32), tuple((1, x + 16) for x in range(16)) + (S,) * 16)
        for pool in (wide, half, fixed(wide, 3, 20)):
            total = (0, 1)
            for y in range(32):
                chances = self.soon(wins_chances, pool, y)
                self.assertEqual(mean(chances), share(1, len(chances)))
                n, d = self.soon(wins_mean, pool, y)
                total = share(total[0] * d + n * total[1], total[1] * d)
            self.assertEqual(total, (len([r for r in pool.exits if r > 0]), 1))
            self.soon(may_play, pool, 12)
            self.soon(sure_play, pool, 12)
            games = tuple((x, 31 - x) for x in range(8))
            self.assertGreaterEqual(self.soon(told_chance, pool, games)[0], 0)
        self.assertEqual(self.soon(told_chance, wide, ((0, 31), (1, 30), (10, 31))), share(1, 22 * 21 * 14))


class Errors(Case):
    def test_sides_and_rounds(self):
        pool = pool_of(plain(8), C)
        for bad in (-1, 8, HUGE, -HUGE):
            self.refused(BadSide, bad, game_chance, pool, bad, 9)
            self.refused(BadSide, bad, game_chance, pool, 0, bad)
            self.refused(BadSide, bad, rest_chance, pool, 3, bad)
            for call in (wins_chances, wins_mean, may_play, sure_play):
                self.refused(BadSide, bad, call, pool, bad)
        for r in (0, 4, -1, HUGE):
            self.refused(BadRound, r, rest_chance, pool, r, 99)

    def test_games(self):
        pool = pool_of(plain(8), C)
        for index, games in (
                (0, ((0, 0),)), (0, ((-1, 0),)), (0, ((0, -1),)), (0, ((8, 0),)), (0, ((0, 8),)), (0, ((HUGE, 1),)),
                (1, ((0, 1), (0, 1))), (1, ((1, 2), (0, 9))), (1, ((0, 2), (0, 1))), (2, ((0, 1), (1, 2), (1, 1))),
                (2, ((0, 1), (1, 2), (1, -HUGE), (0, 0)))):
            self.refused(BadPair, index, told_chance, pool, games)
