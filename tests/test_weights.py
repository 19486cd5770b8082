import math
import random

from boutstairs.errors import BadCount, BadPrice, BadSide, BadWeight, TooMany
from boutstairs.fieldmakes import plain, ranked
from boutstairs.narrowing import fixed, rested
from boutstairs.poolranks import drawn, rank
from boutstairs.pools import pool_of, pool_of_exits, size
from boutstairs.shares import mean, share
from boutstairs.weights import drawn_by, weighed, weighed_chance
from tests.helpers import S, Case
from tests.listings import listed, some_pools
from tests.test_poolranks import last_r
from tests.test_tables import bad_tables, some_table

TOP = 10 ** 9
HUGE = 10 ** 300
C = ((1, 4), (1, 5), (1, 6), (1, 7), (2, 6), (2, 7), (3, 7), S)


def weight(cup, table):
    return math.prod(table[x][y] for x, (r, y) in enumerate(cup) if r > 0)


def told_draw(cups, table, t):
    """The first of the cups at which the weights come above t."""
    for cup in cups:
        t -= weight(cup, table)
        if t < 0:
            return cup
    return None


class Listed(Case):
    def test_all_cups_of_pools(self):
        draw = random.Random(170)
        empty = 0
        for pool, _ in some_pools(171, 250, 1, 8, 150):
            n = pool.field.n
            table = some_table(n, draw)
            cups = sorted(listed(pool), key=lambda cup: rank(pool, cup))
            total = sum(weight(cup, table) for cup in cups)
            self.gives(weighed, (pool, table), total)
            if total == 0:
                empty += 1
                self.refused(BadWeight, 0, weighed_chance, pool, table, 0, 0)
                self.refused(BadWeight, 0, drawn_by, pool, table, (1,))
                continue
            for x in range(n):
                for y in range(n):
                    part = sum(weight(cup, table) for cup in cups if cup[x][1] == y)
                    self.gives(weighed_chance, (pool, table, x, y), share(part, total))
            for _ in range(6):
                digits = tuple(draw.choice((0, 1, -1, TOP, -HUGE, HUGE, draw.randrange(-99, TOP)))
                               for _ in range(draw.randrange(1, 5)))
                self.gives(drawn_by, (pool, table, digits), told_draw(cups, table, last_r(digits, total)))
        self.assertGreater(empty, 20)

    def test_each_cup_as_often_as_its_weight_says(self):
        draw = random.Random(172)
        seen = 0
        for pool, _ in some_pools(173, 100, 2, 7, 40):
            n = pool.field.n
            table = tuple(tuple(draw.randrange(4) for _ in range(n)) for _ in range(n))
            cups = sorted(listed(pool), key=lambda cup: rank(pool, cup))
            total = weighed(pool, table)
            if 0 < total < 1500:
                seen += 1
                found = [drawn_by(pool, table, (t,)) for t in range(total)]
                self.assertEqual(found, [cup for cup in cups for _ in range(weight(cup, table))])
                self.assertEqual(drawn_by(pool, table, (-1,)), found[-1])
        self.assertGreater(seen, 30)


class Edges(Case):
    def test_equal_weights(self):
        pool = pool_of(plain(8), C)
        ones = ((1,) * 8,) * 8
        self.gives(weighed, (pool, ones), 48)
        self.gives(weighed_chance, (pool, ones, 0, 4), (1, 4))
        for digits in ((0,), (47,), (-5, 3), (HUGE, -HUGE)):
            self.exactly(drawn_by(pool, ones, digits), drawn(pool, digits))
        self.gives(weighed, (pool, ((TOP,) * 8,) * 8), 48 * TOP ** 7)
        self.gives(weighed, (pool, ((0,) * 8,) * 8), 0)

    def test_told_games_weigh(self):
        pool = fixed(pool_of(plain(8), C), 0, 4)
        table = tuple(tuple(5 if (x, y) == (0, 4) else 1 for y in range(8)) for x in range(8))
        self.gives(weighed, (pool, table), 60)
        self.gives(weighed_chance, (pool, table, 0, 4), (1, 1))
        self.gives(weighed_chance, (pool, table, 0, 5), (0, 1))
        self.gives(weighed_chance, (pool, table, 7, 0), (0, 1))
        self.gives(weighed_chance, (pool, table, 4, 4), (0, 1))
        table = tuple(tuple(0 if (x, y) == (0, 4) else 1 for y in range(8)) for x in range(8))
        self.gives(weighed, (pool, table), 0)
        self.refused(BadWeight, 0, drawn_by, pool, table, (0,))
        self.refused(BadWeight, 0, weighed_chance, pool, table, 1, 5)

    def test_no_games(self):
        for n in (1, 32):
            pool = pool_of_exits(plain(n), (0,) * n)
            noughts = ((0,) * n,) * n
            self.gives(weighed, (pool, noughts), 1)
            self.gives(weighed_chance, (pool, noughts, 0, n - 1), (0, 1))
            self.gives(drawn_by, (pool, noughts, (-HUGE,)), (S,) * n)

    def test_sets(self):
        pool = pool_of_exits(ranked((0,) * 14), (1, 2) + (0,) * 12)
        noughts = ((0,) * 14,) * 14
        ones = ((1,) * 14,) * 14
        for table in (noughts, ones):
            for call, more in ((weighed, ()), (weighed_chance, (0, 0)), (drawn_by, ((1,),))):
                self.refused(TooMany, 13, call, pool, table, *more)
                self.refused(TooMany, 12, call, fixed(pool, 0, 5), table, *more)
        told = fixed(pool, 0, 5)
        self.exactly(weighed(fixed(told, 1, 6), ones), 1)
        self.exactly(weighed(rested(rested(told, 2, 2), 2, 3), ones), 10)

    def test_ten_seats_come_soon(self):
        eased = ranked((0,) * 32)
        cup = tuple((1, 31 - x) for x in range(10)) + tuple((2, 41 - x) for x in range(10, 20))
        cup += tuple((3, 51 - x) for x in range(20, 26)) + (S,) * 6
        pool = pool_of(eased, cup)
        table = tuple(tuple((x * 7 + y * 5) % 11 for y in range(32)) for x in range(32))
        total = self.soon(weighed, pool, table)
        self.assertGreater(total, 0)
        self.assertEqual(self.soon(weighed, pool, ((3,) * 32,) * 32), size(pool) * 3 ** 26)
        chances = tuple(self.soon(weighed_chance, pool, table, 0, y) for y in range(22, 32))
        self.assertEqual(mean(chances), (1, 10))
        last = self.soon(drawn_by, pool, table, (-1,))
        first = self.soon(drawn_by, pool, table, (0,))
        self.assertLess(rank(pool, first), rank(pool, last))
        self.assertGreater(weight(first, table) * weight(last, table), 0)


class Errors(Case):
    def test_tables_first(self):
        # More than ten seats, no digits and no sides: the table counts before all of them.
        pool = pool_of_exits(plain(14), (1,) + (0,) * 13)
        for what, table in bad_tables(14):
            self.refused(BadPrice, what, weighed, pool, table)
            self.refused(BadPrice, what, weighed_chance, pool, table, -1, -1)
            self.refused(BadPrice, what, drawn_by, pool, table, ())
        table = ((0,) * 14,) * 14
        self.refused(BadCount, 0, drawn_by, pool, table, ())
        for bad in (-1, 14, HUGE):
            self.refused(BadSide, bad, weighed_chance, pool, table, bad, 99)
            self.refused(BadSide, bad, weighed_chance, pool, table, 0, bad)
        small = pool_of(plain(8), C)
        self.refused(BadCount, 0, drawn_by, small, ((0,) * 8,) * 8, ())
        self.refused(BadSide, 8, weighed_chance, small, ((0,) * 8,) * 8, 0, 8)
