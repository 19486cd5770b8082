import random

from boutstairs.errors import BadCount
from boutstairs.fieldmakes import plain, ranked
from boutstairs.narrowing import fixed, rested
from boutstairs.poolranks import drawn, nth, rank
from boutstairs.pools import choices, hall_free, pool_of, pool_of_exits, pool_of_records, size
from boutstairs.records import records
from tests.helpers import BAD_CUPS, S, Case
from tests.listings import listed, may, some_pools

HUGE = 10 ** 300
C = ((1, 4), (1, 5), (1, 6), (1, 7), (2, 6), (2, 7), (3, 7), S)


def figures(pool, cup):
    """The figures of a cup, as the document tells them."""
    found = []
    for r in range(1, len(pool.halls) + 1):
        taken = []
        for x, _ in choices(pool, r):
            able = [y for y in hall_free(pool, r) if may(pool.field, y, x) and y not in taken]
            found.append(able.index(cup[x][1]))
            taken.append(cup[x][1])
    return found


def last_r(digits, modulus):
    r = 0
    for digit in digits:
        r = (r * 1000003 + digit) % modulus
    return r


class Numbers(Case):
    def test_all_cups_of_pools(self):
        for pool, _ in some_pools(90, 200):
            row = sorted(listed(pool), key=lambda cup: figures(pool, cup))
            self.assertEqual(size(pool), len(row))
            for k, cup in enumerate(row):
                self.exactly(nth(pool, k), cup)
                self.exactly(rank(pool, cup), k)
            for k in (-1, len(row), HUGE, -HUGE):
                self.refused(BadCount, k, nth, pool, k)

    def test_the_pool_of_the_document(self):
        pool = pool_of(plain(8), C)
        self.assertEqual(figures(pool, C), [3, 2, 1, 0, 1, 0, 0])
        self.gives(rank, (pool, C), 47)
        self.gives(nth, (pool, 47), C)
        self.gives(nth, (pool, 0), ((1, 7), (1, 6), (1, 5), (1, 4), (2, 7), (2, 6), (3, 7), S))

    def test_pools_of_one_cup(self):
        one = pool_of(plain(2), ((1, 1), S))
        for pool, cup in ((pool_of(plain(1), (S,)), (S,)), (pool_of_exits(plain(32), (0,) * 32), (S,) * 32),
                          (one, ((1, 1), S)), (fixed(one, 0, 1), ((1, 1), S))):
            self.gives(nth, (pool, 0), cup)
            self.gives(rank, (pool, cup), 0)
            self.gives(drawn, (pool, (-HUGE, 7)), cup)
            self.refused(BadCount, 1, nth, pool, 1)

    def test_great_pools_come_soon(self):
        draw = random.Random(91)
        field = ranked((0,) * 32)
        wide = pool_of_exits(field, (1,) * 10 + (2,) * 8 + (3,) * 5 + (4, 5, 6, 7) + (0,) * 5)
        half = tuple((1, x + 16) for x in range(16)) + (S,) * 16
        for pool in (wide, rested(fixed(wide, 3, 20), 2, 31), pool_of(plain(32), half),
                     pool_of_exits(plain(32), tuple(range(1, 32)) + (0,)),
                     pool_of_records(plain(32), records(plain(32), half))):
            total = size(pool)
            for k in (0, total - 1, draw.randrange(total)):
                cup = self.soon(nth, pool, k)
                self.assertEqual(self.soon(rank, pool, cup), k)


class Drawn(Case):
    def test_digits_of_any_size_and_sign(self):
        draw = random.Random(92)
        for pool, _ in some_pools(93, 80):
            for _ in range(5):
                digits = tuple(draw.choice((0, 1, -1, 10 ** 6, -HUGE, HUGE, draw.randrange(-99, 10 ** 9)))
                               for _ in range(draw.randrange(1, 6)))
                self.exactly(drawn(pool, digits), nth(pool, last_r(digits, size(pool))))

    def test_every_remainder(self):
        pool = pool_of(plain(8), C)
        for digit in range(-48, 96):
            self.exactly(drawn(pool, (digit,)), nth(pool, digit % 48))
        self.exactly(drawn(pool, (1, 0)), nth(pool, 1000003 % 48))
        self.exactly(drawn(pool, (0, 0, 5)), nth(pool, 5))

    def test_no_digits(self):
        self.refused(BadCount, 0, drawn, pool_of(plain(8), C), ())
        self.refused(BadCount, 0, drawn, pool_of(plain(1), (S,)), ())


class Errors(Case):
    def test_rank_looks_at_the_cup_first(self):
        pool = pool_of(plain(4), ((1, 1), S, S, S))
        for error, what, pairs in BAD_CUPS:
            self.refused(error, what, rank, pool, pairs)
        self.refused(BadCount, 0, rank, pool, ((1, 2), S, S, S))
        self.refused(BadCount, 0, rank, pool, (S,) * 4)
        self.refused(BadCount, 0, rank, pool, ((1, 1), (2, 2), S, S))
        wide = pool_of(plain(4), ((1, 1), S, S, S), loose=(1,))
        self.gives(rank, (wide, ((1, 2), S, S, S)), 1)
        self.refused(BadCount, 0, rank, fixed(wide, 0, 1), ((1, 2), S, S, S))
        self.refused(BadCount, 0, rank, rested(wide, 1, 2), ((1, 2), S, S, S))
