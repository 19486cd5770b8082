import itertools
import math
import random

from boutstairs.apartchances import apart_chance
from boutstairs.errors import BadCount, BadPair, BadRound, BadSide, TooMany
from boutstairs.fieldmakes import plain, ranked
from boutstairs.meetchances import meet_chances, meet_games
from boutstairs.meetings import keeps_apart, meet
from boutstairs.narrowing import fixed
from boutstairs.pools import pool_of, pool_of_exits
from boutstairs.shares import mean, plus, share
from tests.helpers import S, Case
from tests.listings import listed, some_pools

HUGE = 10 ** 300
C = ((1, 4), (1, 5), (1, 6), (1, 7), (2, 6), (2, 7), (3, 7), S)


class Meetings(Case):
    def test_listed(self):
        for pool, _ in some_pools(140, 100, 1, 8, 100):
            cups = listed(pool)
            for x, y in itertools.permutations(range(pool.field.n), 2):
                met = [meet(pool.field, cup, x, y) for cup in cups]
                rounds = [0 if game is None else game[0] for game in met]
                expected = tuple(share(rounds.count(r), len(cups)) for r in range(len(pool.halls) + 1))
                self.gives(meet_chances, (pool, x, y), expected)
                games = sorted({game for game in met if game is not None})
                expected = tuple((game, share(met.count(game), len(cups))) for game in games)
                self.gives(meet_games, (pool, x, y), expected)

    def test_the_pool_of_the_document(self):
        pool = pool_of(plain(8), C)
        self.gives(meet_chances, (pool, 0, 1), ((0, 1), (0, 1), (1, 3), (2, 3)))
        games = tuple(((2, x, y), (1, 12)) for x in (4, 5) for y in (6, 7))
        self.gives(meet_games, (pool, 0, 1), games + (((3, 6, 7), (2, 3)),))
        told = fixed(fixed(pool, 0, 4), 1, 7)
        self.gives(meet_games, (told, 1, 0), (((2, 4, 7), (1, 2)), ((3, 6, 7), (1, 2))))

    def test_edges(self):
        pool = pool_of_exits(plain(2), (0, 0))
        self.gives(meet_chances, (pool, 0, 1), ((1, 1),))
        self.gives(meet_games, (pool, 1, 0), ())
        pool = pool_of_exits(plain(2), (1, 0))
        self.gives(meet_chances, (pool, 1, 0), ((0, 1), (1, 1)))
        self.gives(meet_games, (pool, 1, 0), (((1, 0, 1), (1, 1)),))
        field = ranked((0,) * 32)
        for exits in ((1,) * 10 + (2,) * 8 + (3,) * 5 + (4, 5, 6, 7) + (0,) * 5, (1, 1) + (2,) * 15 + (0,) * 15,
                      tuple(range(1, 32)) + (0,)):
            pool = pool_of_exits(field, exits)
            found = self.soon(meet_chances, pool, 1, 0)
            self.assertEqual(mean(found), share(1, len(found)))
            games = self.soon(meet_games, pool, 1, 0)
            self.assertEqual(list(games), sorted(games))
            never = (found[0],) + tuple(chance for _, chance in games)
            self.assertEqual(mean(never), share(1, len(never)))

    def test_errors(self):
        pool = pool_of(plain(8), C)
        for call in (meet_chances, meet_games):
            for bad in (-1, 8, HUGE):
                self.refused(BadSide, bad, call, pool, bad, 99)
                self.refused(BadSide, bad, call, pool, 0, bad)
            for x in (0, 7):
                self.refused(BadPair, x, call, pool, x, x)
        self.refused(BadPair, 0, meet_chances, pool_of(plain(1), (S,)), 0, 0)


class Apart(Case):
    def test_listed(self):
        draw = random.Random(141)
        for pool, _ in some_pools(142, 120, 2, 9, 100):
            cups = listed(pool)
            for many in range(2, min(4, pool.field.n) + 1):
                for _ in range(4):
                    sides = tuple(sorted(draw.sample(range(pool.field.n), many)))
                    for r in range(len(pool.halls) + 1):
                        apart = [cup for cup in cups if keeps_apart(pool.field, cup, sides, r)]
                        self.gives(apart_chance, (pool, sides, r), share(len(apart), len(cups)))

    def test_two_sides_are_apart_until_they_meet(self):
        for pool, _ in some_pools(143, 60, 2, 16, 10 ** 4):
            for x, y in itertools.combinations(range(pool.field.n), 2):
                chances = meet_chances(pool, x, y)
                left = (1, 1)
                for r in range(len(pool.halls) + 1):
                    if r > 0:
                        left = share(left[0] * chances[r][1] - chances[r][0] * left[1], left[1] * chances[r][1])
                    self.assertEqual(apart_chance(pool, (x, y), r), left)

    def test_the_pool_of_the_document(self):
        pool = pool_of(plain(8), C)
        for r, chance in ((0, (1, 1)), (1, (1, 1)), (2, (2, 3)), (3, (0, 1))):
            self.gives(apart_chance, (pool, (0, 1), r), chance)
        self.gives(apart_chance, (pool, (0, 1, 2, 3), 1), (1, 1))
        self.gives(apart_chance, (pool, (0, 1, 2), 2), (0, 1))

    def test_four_of_sixteen_come_soon(self):
        field = ranked((0,) * 16)
        for exits in ((1,) * 4 + (2,) * 6 + (0,) * 6, (1,) * 8 + (2,) * 4 + (0,) * 4, tuple(range(1, 16)) + (0,)):
            pool = pool_of_exits(field, exits)
            for r in range(len(pool.halls) + 1):
                self.soon(apart_chance, pool, (0, 1, 2, 3), r)
        # The four go to four of twelve; of these j lose, and go to none of the 4 - j that are of the six winners.
        pool = pool_of_exits(field, (1,) * 4 + (2,) * 6 + (0,) * 6)
        kept = (0, 1)
        for j in range(5):
            many = math.comb(6, j) * math.comb(6, 4 - j) * math.comb(2 + j, j)
            kept = plus(kept, share(many, math.comb(6, j) * math.comb(12, 4)))
        self.assertEqual(kept, (16, 33))
        self.exactly(apart_chance(pool, (0, 1, 2, 3), 2), kept)
        self.gives(apart_chance, (pool, (12, 13, 14, 15), 2), (1, 1))

    def test_errors(self):
        pool = pool_of(plain(8), C)
        for sides in ((), (9,), (-1,) * 5, (0,) * 33):
            self.refused(BadCount, len(sides), apart_chance, pool, sides, 99)
        for what, sides in ((-1, (-1, 9)), (0, (0, 0)), (1, (2, 1, 9)), (8, (0, 8)), (HUGE, (0, 1, HUGE, -1)),
                            (3, (0, 1, 4, 3))):
            self.refused(BadSide, what, apart_chance, pool, sides, 99)
        for r in (-1, 4, HUGE):
            self.refused(BadRound, r, apart_chance, pool, (0, 1), r)
        for n in (17, 32):
            wide = pool_of_exits(plain(n), (1,) + (0,) * (n - 1))
            self.refused(BadRound, 2, apart_chance, wide, (0, 1), 2)
            self.refused(TooMany, n, apart_chance, wide, (0, 1), 0)
        sixteen = pool_of_exits(plain(16), (1,) + (0,) * 15)
        self.gives(apart_chance, (sixteen, (0, 1, 2, 15), 1), (4, 5))
        self.refused(BadCount, 1, apart_chance, pool_of(plain(1), (S,)), (0,), 0)
