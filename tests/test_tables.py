import random

from boutstairs.cheapest import cheapest
from boutstairs.errors import BadPrice, TooMany
from boutstairs.fieldmakes import plain, ranked
from boutstairs.narrowing import fixed, rested
from boutstairs.poolranks import rank
from boutstairs.pools import pool_of, pool_of_exits
from boutstairs.shares import mean, plus, share, times
from boutstairs.tables import cup_price, mean_price, price_variance
from tests.helpers import S, Case
from tests.listings import listed, some_pools

TOP = 10 ** 9
HUGE = 10 ** 300
C = ((1, 4), (1, 5), (1, 6), (1, 7), (2, 6), (2, 7), (3, 7), S)


def some_table(n, draw):
    """A price table with equal numbers, great ones and noughts."""
    numbers = draw.choice(((0,), (0, 1), (1, 2, 3), (0, 5, TOP), tuple(range(50))))
    return tuple(tuple(draw.choice(numbers) for _ in range(n)) for _ in range(n))


def price_of(cup, table):
    return sum(table[x][y] for x, (r, y) in enumerate(cup) if r > 0)


def bad_tables(n):
    """Tables that are none for n sides, with what is named."""
    good = (0,) * (n - 1) + (TOP,)
    yield 0, ()
    yield n - 1, ((-1,),) * (n - 1)
    yield n + 1, (good,) * (n + 1)
    for row in ((), (0,) * (n - 1), (0,) * (n + 1), (0,) * (n - 1) + (-1,), (TOP + 1,) + (0,) * (n - 1), (HUGE,) * n):
        yield (0,), (row,) * n
        yield (n - 1,), (good,) * (n - 1) + (row,)


class Listed(Case):
    def test_all_cups_of_pools(self):
        draw = random.Random(160)
        for pool, cup in some_pools(161, 250, 1, 8, 150):
            table = some_table(pool.field.n, draw)
            cups = listed(pool)
            self.gives(cup_price, (pool.field, cup, table), price_of(cup, table))
            prices = [price_of(one, table) for one in cups]
            middle = mean(tuple((price, 1) for price in prices))
            self.gives(mean_price, (pool, table), middle)
            apart = [plus((price, 1), (-middle[0], middle[1])) for price in prices]
            self.gives(price_variance, (pool, table), mean(tuple(times(part, part) for part in apart)))
            least = min(prices)
            best = [one for one, price in zip(cups, prices) if price == least]
            first = min(best, key=lambda one: rank(pool, one))
            self.gives(cheapest, (pool, table), (least, len(best), first))


class Edges(Case):
    def test_noughts_and_the_greatest(self):
        pool = pool_of(plain(8), C)
        noughts = ((0,) * 8,) * 8
        tops = ((TOP,) * 8,) * 8
        self.gives(cup_price, (plain(8), C, noughts), 0)
        self.gives(cup_price, (plain(8), C, tops), 7 * TOP)
        self.gives(mean_price, (pool, noughts), (0, 1))
        self.gives(mean_price, (pool, tops), (7 * TOP, 1))
        self.gives(price_variance, (pool, tops), (0, 1))
        first = ((1, 7), (1, 6), (1, 5), (1, 4), (2, 7), (2, 6), (3, 7), S)
        self.gives(cheapest, (pool, noughts), (0, 48, first))
        self.gives(cheapest, (pool, tops), (7 * TOP, 48, first))

    def test_no_games(self):
        for n in (1, 16):
            pool = pool_of_exits(plain(n), (0,) * n)
            table = ((TOP,) * n,) * n
            self.gives(cup_price, (plain(n), (S,) * n, table), 0)
            self.gives(mean_price, (pool, table), (0, 1))
            self.gives(price_variance, (pool, table), (0, 1))
            self.gives(cheapest, (pool, table), (0, 1, (S,) * n))
        wide = pool_of_exits(plain(32), (0,) * 32)
        self.gives(cheapest, (wide, ((1,) * 32,) * 32), (0, 1, (S,) * 32))

    def test_sixteen_sides_and_seventeen(self):
        draw = random.Random(162)
        for exits in ((1,) * 8 + (2,) * 4 + (3, 3, 4, 0), (1,) * 5 + (0,) * 11, tuple(range(1, 16)) + (0,)):
            pool = pool_of_exits(ranked((0,) * 16), exits)
            table = some_table(16, draw)
            self.assertGreaterEqual(self.soon(price_variance, pool, table)[0], 0)
        for n in (17, 32):
            pool = pool_of_exits(plain(n), (1,) + (0,) * (n - 1))
            table = tuple(tuple(x + y for y in range(n)) for x in range(n))
            self.refused(TooMany, n, price_variance, pool, table)
            self.refused(TooMany, n, price_variance, pool_of_exits(plain(n), (0,) * n), table)
            self.assertEqual(self.soon(mean_price, pool, table), share(n, 2))
        pool = pool_of_exits(plain(16), (1,) + (0,) * 15)
        table = tuple(tuple(x + y for y in range(16)) for x in range(16))
        self.gives(price_variance, (pool, table), share(15 * 15 - 1, 12))

    def test_great_pools_come_soon(self):
        eased = ranked((0,) * 32)
        cup = tuple((1, 31 - x) for x in range(10)) + tuple((2, 41 - x) for x in range(10, 20))
        cup += tuple((3, 51 - x) for x in range(20, 26)) + (S,) * 6
        pool = pool_of(eased, cup)
        table = tuple(tuple((x * 7 + y * 5) % 11 for y in range(32)) for x in range(32))
        least, many, first = self.soon(cheapest, pool, table)
        self.assertEqual(price_of(first, table), least)
        self.assertGreaterEqual(many, 1)
        self.assertLessEqual(least, price_of(cup, table))
        n, d = self.soon(mean_price, pool, table)
        self.assertLessEqual(least * d, n)
        ladder = pool_of_exits(plain(32), tuple(range(1, 32)) + (0,))
        self.assertGreater(self.soon(mean_price, ladder, table), (0, 1))

    def test_sets(self):
        pool = pool_of_exits(ranked((0,) * 14), (1, 2) + (0,) * 12)
        table = ((1,) * 14,) * 14
        self.refused(TooMany, 13, cheapest, pool, table)
        told = fixed(pool, 0, 5)
        self.refused(TooMany, 12, cheapest, told, table)
        self.exactly(cheapest(fixed(told, 1, 6), table), (2, 1, ((1, 5), (2, 6)) + (S,) * 12))
        narrow = rested(rested(told, 2, 2), 2, 3)
        self.exactly(cheapest(narrow, table), (2, 10, ((1, 5), (2, 4)) + (S,) * 12))


class Errors(Case):
    def test_tables(self):
        pool = pool_of(plain(8), C)
        wide = pool_of_exits(plain(17), (1,) + (0,) * 16)
        for what, table in bad_tables(8):
            self.refused(BadPrice, what, cup_price, plain(8), C, table)
            self.refused(BadPrice, what, mean_price, pool, table)
        for what, table in bad_tables(17):
            self.refused(BadPrice, what, price_variance, wide, table)
            self.refused(BadPrice, what, cheapest, wide, table)
        self.asks_cup(cup_price, ())
        self.refused(BadPrice, 1, mean_price, pool_of_exits(plain(2), (0, 0)), ((),))
