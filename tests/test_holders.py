from boutstairs.boughs import holder
from boutstairs.errors import BadRound, BadSide
from boutstairs.fieldmakes import plain, ranked
from boutstairs.holders import holder_chances
from boutstairs.narrowing import fixed
from boutstairs.pools import pool_of, pool_of_exits
from boutstairs.shares import mean, share
from tests.helpers import S, Case
from tests.listings import listed, some_pools

HUGE = 10 ** 300
C = ((1, 4), (1, 5), (1, 6), (1, 7), (2, 6), (2, 7), (3, 7), S)


class Holders(Case):
    def test_listed(self):
        for pool, _ in some_pools(120, 120, 1, 8, 120):
            cups = listed(pool)
            for x in range(pool.field.n):
                for r in range(len(pool.halls) + 1):
                    found = [holder(pool.field, cup, x, r) for cup in cups]
                    expected = tuple((z, share(found.count(z), len(cups))) for z in sorted(set(found)))
                    self.gives(holder_chances, (pool, x, r), expected)

    def test_the_pool_of_the_document(self):
        pool = pool_of(plain(8), C)
        self.gives(holder_chances, (pool, 0, 0), ((0, (1, 1)),))
        self.gives(holder_chances, (pool, 0, 1), tuple((y, (1, 4)) for y in (4, 5, 6, 7)))
        self.gives(holder_chances, (pool, 0, 2), ((6, (1, 2)), (7, (1, 2))))
        self.gives(holder_chances, (pool, 0, 3), ((7, (1, 1)),))
        self.gives(holder_chances, (fixed(pool, 4, 6), 0, 2), ((6, (1, 2)), (7, (1, 2))))
        self.gives(holder_chances, (pool, 7, 3), ((7, (1, 1)),))

    def test_edges(self):
        self.gives(holder_chances, (pool_of(plain(1), (S,)), 0, 0), ((0, (1, 1)),))
        wide = pool_of_exits(ranked((0,) * 32), (1,) * 10 + (2,) * 8 + (3,) * 5 + (4, 5, 6, 7) + (0,) * 5)
        for r in range(8):
            found = self.soon(holder_chances, wide, 0, r)
            self.assertEqual(mean(tuple(chance for _, chance in found)), share(1, len(found)))
        ladder = pool_of_exits(plain(32), tuple(range(1, 32)) + (0,))
        self.assertEqual(self.soon(holder_chances, ladder, 0, 31), ((31, (1, 1)),))
        self.assertEqual(self.soon(holder_chances, ladder, 0, 1), tuple((y, (1, 31)) for y in range(1, 32)))

    def test_errors(self):
        pool = pool_of(plain(8), C)
        for bad in (-1, 8, HUGE):
            self.refused(BadSide, bad, holder_chances, pool, bad, -1)
        for r in (-1, 4, HUGE, -HUGE):
            self.refused(BadRound, r, holder_chances, pool, 0, r)
        self.refused(BadRound, 1, holder_chances, pool_of(plain(1), (S,)), 0, 1)
