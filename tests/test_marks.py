import itertools
import math
import random

from boutstairs.errors import BadPair, TooMany
from boutstairs.fieldmakes import plain, ranked
from boutstairs.marks import agree, marks, upsets
from boutstairs.narrowing import fixed, rested
from boutstairs.pools import pool_of, pool_of_exits, size
from tests.helpers import BAD_CUPS, S, Case
from tests.listings import listed, some_cup, some_pools

HUGE = 10 ** 300
C = ((1, 4), (1, 5), (1, 6), (1, 7), (2, 6), (2, 7), (3, 7), S)


def games_of(cup):
    return {(x, y) for x, (r, y) in enumerate(cup) if r > 0}


def poly(cups, games):
    """At k how many of the cups have just k of the games."""
    counts = [len(games_of(cup) & set(games)) for cup in cups]
    return tuple(counts.count(k) for k in range(max(counts) + 1))


class Listed(Case):
    def test_all_cups_of_pools(self):
        draw = random.Random(150)
        for pool, cup in some_pools(151, 200, 1, 8, 150):
            cups = listed(pool)
            n = pool.field.n
            every = tuple(itertools.permutations(range(n), 2))
            some = tuple(game for game in every if draw.random() < 0.3)
            for games in ((), every, some, tuple(sorted(games_of(cup))), pool.told):
                self.gives(marks, (pool, games), poly(cups, games))
            for other in (cup, some_cup(pool.field, draw), (S,) * n):
                self.gives(agree, (pool, other), poly(cups, games_of(other)))
            strengths = pool.field.strengths
            low = [(x, y) for x, y in every if strengths[y] < strengths[x]]
            self.gives(upsets, (pool,), poly(cups, low))


class Edges(Case):
    def test_the_pool_of_the_document(self):
        pool = pool_of(plain(8), C)
        self.gives(marks, (pool, ((3, 7),)), (36, 12))
        self.gives(marks, (pool, ((6, 7),)), (0, 48))
        self.gives(upsets, (pool,), (48,))
        self.gives(marks, (fixed(pool, 3, 7), ((3, 7),)), (0, 12))
        self.gives(marks, (fixed(pool, 3, 7), ((3, 6),)), (12,))

    def test_no_games(self):
        for n in (1, 32):
            pool = pool_of_exits(plain(n), (0,) * n)
            self.gives(marks, (pool, ()), (1,))
            self.gives(agree, (pool, (S,) * n), (1,))
            self.gives(upsets, (pool,), (1,))
        self.gives(marks, (pool, ((0, 1),)), (1,))

    def test_ten_seats_and_eleven(self):
        for many in (10, 11, 16):
            cup = tuple((1, many + x) for x in range(many)) + (S,) * many
            pool = pool_of(ranked((0,) * (2 * many)), cup)
            games = tuple((x, many + x) for x in range(many))
            if many == 10:
                found = self.soon(marks, pool, games)
                self.assertEqual(sum(found), math.factorial(10))
                self.assertEqual((found[0], found[9], found[10]), (1334961, 0, 1))
                self.assertEqual(self.soon(agree, pool, cup), found)
                self.assertEqual(self.soon(upsets, pool), (math.factorial(10),))
            else:
                self.refused(TooMany, many, marks, pool, games)
                self.refused(TooMany, many, marks, pool, ())
                self.refused(TooMany, many, agree, pool, cup)
                self.refused(TooMany, many, upsets, pool)

    def test_sets_of_the_first_round_with_a_free_loser(self):
        # Round 1 has 13 free sides in its hall, round 2 has 12; told games and rests make them fewer.
        pool = pool_of_exits(ranked((0,) * 14), (1, 2) + (0,) * 12)
        for call, more in ((marks, ((),)), (agree, ((S,) * 14,)), (upsets, ())):
            self.refused(TooMany, 13, call, pool, *more)
            told = fixed(pool, 0, 5)
            self.refused(TooMany, 12, call, told, *more)
            self.assertEqual(sum(call(fixed(told, 1, 6), *more)), 1)
            narrow = told
            for y in (2, 3):
                narrow = rested(narrow, 2, y)
            self.assertEqual(sum(call(narrow, *more)), 10)

    def test_great_pools_come_soon(self):
        eased = ranked((0,) * 32)
        cup = tuple((1, 31 - x) for x in range(10)) + tuple((2, 41 - x) for x in range(10, 20))
        cup += tuple((3, 51 - x) for x in range(20, 26)) + (S,) * 6
        pool = pool_of(eased, cup)
        every = tuple((x, y) for x in range(32) for y in range(32) if x < y)
        self.assertEqual(self.soon(marks, pool, every), (0,) * 26 + (size(pool),))
        self.assertEqual(self.soon(agree, pool, cup)[26], 1)
        self.assertEqual(self.soon(upsets, pool), (size(pool),))
        self.assertEqual(self.soon(upsets, pool_of(plain(32), cup)), (size(pool_of(plain(32), cup)),))


class Errors(Case):
    def test_games_come_before_sets(self):
        pool = pool_of_exits(ranked((0,) * 14), (1,) + (0,) * 13)
        for index, games in ((0, ((0, 0),)), (0, ((-1, 0),)), (0, ((0, 14),)), (1, ((0, 1), (0, 1))),
                             (2, ((0, 2), (1, 2), (1, 0), (9, 9))), (1, ((0, 1), (HUGE, 0)))):
            self.refused(BadPair, index, marks, pool, games)
        self.refused(TooMany, 13, marks, pool, ((0, 1), (1, 0)))

    def test_cups(self):
        pool = pool_of(plain(4), ((1, 1), S, S, S))
        for error, what, pairs in BAD_CUPS:
            self.refused(error, what, agree, pool, pairs)
        self.gives(agree, (pool, ((1, 2), S, S, S)), (1,))
        self.gives(agree, (pool, ((1, 1), (2, 2), S, S)), (0, 1))
        self.refused(BadPair, 0, marks, pool, ((0, 4),))
