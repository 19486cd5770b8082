from boutstairs.abovechances import above_chance, bough_mean, depth_chances, depth_mean
from boutstairs.boughs import bough, path
from boutstairs.errors import BadSide
from boutstairs.fieldmakes import plain, ranked
from boutstairs.gamechances import game_chance
from boutstairs.narrowing import fixed
from boutstairs.pools import pool_of, pool_of_exits
from boutstairs.shares import mean, plus, share
from tests.helpers import S, Case
from tests.listings import listed, some_pools
from tests.test_gamechances import spread

HUGE = 10 ** 300
C = ((1, 4), (1, 5), (1, 6), (1, 7), (2, 6), (2, 7), (3, 7), S)


class Paths(Case):
    def test_listed(self):
        for pool, _ in some_pools(130, 120, 1, 8, 120):
            cups = listed(pool)
            field = pool.field
            for x in range(field.n):
                paths = [path(field, cup, x) for cup in cups]
                depths = [len(row) for row in paths]
                self.gives(depth_chances, (pool, x), spread(depths))
                self.gives(depth_mean, (pool, x), mean(tuple((d, 1) for d in depths)))
                for y in range(field.n):
                    above = len([row for row in paths if y in row])
                    self.gives(above_chance, (pool, x, y), share(above, len(cups)))
                boughs = tuple((len(bough(field, cup, x)), 1) for cup in cups)
                self.gives(bough_mean, (pool, x), mean(boughs))

    def test_the_pool_of_the_document(self):
        pool = pool_of(plain(8), C)
        self.gives(depth_chances, (pool, 0), ((0, 1), (1, 4), (1, 2), (1, 4)))
        self.gives(depth_mean, (pool, 0), (2, 1))
        self.gives(above_chance, (pool, 0, 6), (1, 2))
        self.gives(above_chance, (pool, 0, 0), (0, 1))
        self.gives(above_chance, (pool, 7, 7), (0, 1))
        self.gives(above_chance, (pool, 6, 0), (0, 1))
        self.gives(bough_mean, (pool, 7), (8, 1))
        self.gives(bough_mean, (pool, 0), (1, 1))
        self.gives(above_chance, (fixed(pool, 0, 6), 0, 6), (1, 1))
        self.gives(depth_chances, (fixed(pool, 0, 6), 0), ((0, 1), (0, 1), (1, 1)))

    def test_edges(self):
        for pool in (pool_of(plain(1), (S,)), pool_of_exits(plain(32), (0,) * 32)):
            self.gives(depth_chances, (pool, 0), ((1, 1),))
            self.gives(depth_mean, (pool, 0), (0, 1))
            self.gives(bough_mean, (pool, 0), (1, 1))
            self.gives(above_chance, (pool, 0, 0), (0, 1))
        field = ranked((0,) * 32)
        wide = pool_of_exits(field, (1,) * 10 + (2,) * 8 + (3,) * 5 + (4, 5, 6, 7) + (0,) * 5)
        for pool in (wide, pool_of_exits(plain(32), tuple(range(1, 32)) + (0,))):
            for x in (0, 9, 25, 31):
                found = self.soon(depth_chances, pool, x)
                self.assertEqual(mean(found), share(1, len(found)))
                self.soon(depth_mean, pool, x)
                total = (0, 1)
                for z in range(32):
                    n, d = game_chance(pool, x, z)
                    a, b = (1, 1) if z == 31 else self.soon(above_chance, pool, z, 31)
                    total = plus(total, share(n * a, d * b))
                self.assertEqual(self.soon(above_chance, pool, x, 31), total)
            self.soon(bough_mean, pool, 31)

    def test_errors(self):
        pool = pool_of(plain(8), C)
        for bad in (-1, 8, HUGE):
            self.refused(BadSide, bad, above_chance, pool, bad, 99)
            self.refused(BadSide, bad, above_chance, pool, 0, bad)
            for call in (depth_chances, depth_mean, bough_mean):
                self.refused(BadSide, bad, call, pool, bad)
