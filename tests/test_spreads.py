import random

from boutstairs.errors import BadCount
from boutstairs.fieldmakes import plain, ranked
from boutstairs.narrowing import fixed
from boutstairs.poolranks import nth, rank
from boutstairs.pools import pool_of, pool_of_exits, size
from boutstairs.rule import fewest
from boutstairs.shares import mean
from boutstairs.spreads import at_distance, balls, distance_rank, farthest, farthest_cup, mean_fewest
from tests.helpers import BAD_CUPS, S, Case
from tests.listings import listed, some_pools

HUGE = 10 ** 300
C = ((1, 4), (1, 5), (1, 6), (1, 7), (2, 6), (2, 7), (3, 7), S)
EVERY = tuple(range(1, 32))


class Listed(Case):
    def test_all_cups_of_pools(self):
        draw = random.Random(100)
        for pool, _ in some_pools(101, 120, 1, 8, 120):
            row = [nth(pool, k) for k in range(size(pool))]
            self.assertEqual(sorted(row), sorted(listed(pool)))
            counted = []
            # From each cup equally many cups are 0, 1, 2, .. deeds away.
            for one in row:
                far = [fewest(pool.field, one, cup, loose=EVERY) for cup in row]
                counted.append(tuple(far.count(d) for d in range(max(far) + 1)))
            self.assertEqual(len(set(counted)), 1)
            self.exactly(balls(pool), counted[0])
            self.exactly(farthest(pool), len(counted[0]) - 1)
            for one in draw.sample(row, min(4, len(row))):
                self.told(pool, one, row)

    def told(self, pool, one, row):
        rings = {}
        for cup in row:
            rings.setdefault(fewest(pool.field, one, cup, loose=EVERY), []).append(cup)
        far = [(d, 1) for d, cups in rings.items() for _ in cups]
        self.exactly(mean_fewest(pool), mean(tuple(far)))
        self.exactly(farthest_cup(pool, one), rings[max(rings)][0])
        for d, cups in rings.items():
            for k, cup in enumerate(cups):
                self.exactly(at_distance(pool, one, d, k), cup)
                self.exactly(distance_rank(pool, one, cup), k)
            for k in (-1, len(cups), HUGE):
                self.refused(BadCount, k, at_distance, pool, one, d, k)
        for d in (-1, max(rings) + 1, HUGE, -HUGE):
            for k in (0, -1, 5):
                self.refused(BadCount, k, at_distance, pool, one, d, k)


class Edges(Case):
    def test_the_pool_of_the_document(self):
        pool = pool_of(plain(8), C)
        self.gives(balls, (pool,), (1, 7, 17, 17, 6))
        self.gives(farthest, (pool,), 4)
        self.gives(mean_fewest, (pool,), (29, 12))
        self.gives(at_distance, (pool, C, 0, 0), C)
        self.gives(distance_rank, (pool, C, C), 0)

    def test_pools_of_one_cup(self):
        for pool, cup in ((pool_of(plain(1), (S,)), (S,)), (pool_of_exits(plain(32), (0,) * 32), (S,) * 32),
                          (pool_of(plain(2), ((1, 1), S)), ((1, 1), S))):
            self.gives(balls, (pool,), (1,))
            self.gives(farthest, (pool,), 0)
            self.gives(mean_fewest, (pool,), (0, 1))
            self.gives(farthest_cup, (pool, cup), cup)
            self.gives(at_distance, (pool, cup, 0, 0), cup)
            self.gives(distance_rank, (pool, cup, cup), 0)
            self.refused(BadCount, 1, at_distance, pool, cup, 0, 1)
            self.refused(BadCount, 0, at_distance, pool, cup, 1, 0)

    def test_told_games_and_rests(self):
        pool = pool_of(plain(8), C, loose=(1, 2, 3))
        told = fixed(fixed(pool, 0, 4), 5, 7)
        self.gives(balls, (told,), (1, 3, 2))
        self.gives(farthest_cup, (told, C), ((1, 4), (1, 6), (1, 7), (1, 5)) + C[4:])

    def test_great_pools_come_soon(self):
        draw = random.Random(102)
        field = ranked((0,) * 32)
        wide = pool_of_exits(field, (1,) * 10 + (2,) * 8 + (3,) * 5 + (4, 5, 6, 7) + (0,) * 5)
        ladder = pool_of_exits(plain(32), EVERY + (0,))
        for pool in (wide, ladder, fixed(wide, 3, 20)):
            one = nth(pool, draw.randrange(size(pool)))
            table = self.soon(balls, pool)
            self.assertEqual(sum(table), size(pool))
            self.assertEqual(self.soon(farthest, pool), len(table) - 1)
            cup = self.soon(farthest_cup, pool, one)
            self.assertEqual(fewest(pool.field, one, cup, loose=EVERY), len(table) - 1)
            self.assertEqual(self.soon(at_distance, pool, one, len(table) - 1, 0), cup)
            self.soon(mean_fewest, pool)
            last = -1
            for k in sorted([0, table[9] - 1] + [draw.randrange(table[9]) for _ in range(5)]):
                cup = self.soon(at_distance, pool, one, 9, k)
                self.assertEqual(fewest(pool.field, one, cup, loose=EVERY), 9)
                self.assertEqual(self.soon(distance_rank, pool, one, cup), k)
                self.assertGreaterEqual(rank(pool, cup), last)
                last = rank(pool, cup)


class Errors(Case):
    def test_cups(self):
        pool = pool_of(plain(4), ((1, 1), S, S, S))
        good, other = ((1, 1), S, S, S), ((1, 2), S, S, S)
        for error, what, pairs in BAD_CUPS:
            self.refused(error, what, farthest_cup, pool, pairs)
            self.refused(error, what, at_distance, pool, pairs, 0, -1)
            self.refused(error, what, distance_rank, pool, pairs, ())
            self.refused(error, what, distance_rank, pool, good, pairs)
            self.refused(error, what, distance_rank, pool, other, pairs)
        for bad in (other, (S,) * 4, ((1, 1), (2, 2), S, S)):
            self.refused(BadCount, 0, farthest_cup, pool, bad)
            self.refused(BadCount, 0, at_distance, pool, bad, 0, -1)
            self.refused(BadCount, 0, distance_rank, pool, bad, good)
            self.refused(BadCount, 0, distance_rank, pool, bad, bad)
            self.refused(BadCount, 1, distance_rank, pool, good, bad)
