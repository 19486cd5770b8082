import random

from boutstairs.errors import BadRound, BadSide, NoGame, NoRest, TooFew, Unlike
from boutstairs.fieldmakes import margined, plain, ranked
from boutstairs.fields import made_field
from boutstairs.narrowing import both_pools, fixed, freed, moved, rested
from boutstairs.pools import Pool, pool_of, pool_of_exits, size
from tests.helpers import S, Case, fillings
from tests.listings import listed, picture_of, some_pool, some_pools, through

HUGE = 10 ** 300
C = ((1, 4), (1, 5), (1, 6), (1, 7), (2, 6), (2, 7), (3, 7), S)


class Games(Case):
    def test_fixed_and_freed(self):
        for pool, _ in some_pools(80, 150, 1, 7, 150):
            every = listed(pool)
            before = picture_of(pool)
            for x in range(pool.field.n):
                self.freed_of(pool, x)
                for y in range(pool.field.n):
                    having = [cup for cup in every if cup[x][1] == y]
                    if not having:
                        self.refused(NoGame, (x, y), fixed, pool, x, y)
                        continue
                    found = fixed(pool, x, y)
                    self.assertIsInstance(found, Pool)
                    told = pool.told if (x, y) in pool.told else tuple(sorted(pool.told + ((x, y),)))
                    self.exactly(picture_of(found), before[:3] + (told,))
                    self.assertEqual(sorted(listed(found)), sorted(having))
                    if (x, y) not in pool.told:
                        self.exactly(picture_of(freed(found, x)), before)
            self.exactly(picture_of(pool), before)

    def freed_of(self, pool, x):
        if x not in dict(pool.told):
            self.refused(NoGame, (x, -1), freed, pool, x)
            return
        found = freed(pool, x)
        told = tuple(game for game in pool.told if game[0] != x)
        self.exactly(picture_of(found), picture_of(pool)[:3] + (told,))

    def test_sides_first(self):
        pool = pool_of(plain(8), C)
        for bad in (8, -1, HUGE, -HUGE):
            self.refused(BadSide, bad, fixed, pool, bad, 9)
            self.refused(BadSide, bad, fixed, pool, 7, bad)
            self.refused(BadSide, bad, freed, pool, bad)
        for x, y in ((7, 0), (0, 0), (7, 7), (4, 5), (4, 3)):
            self.refused(NoGame, (x, y), fixed, pool, x, y)
        # Of the board of round 1 only side 7 is left for side 3, if 4, 5 and 6 are told to win.
        for x, y in ((0, 4), (1, 5), (2, 6)):
            pool = fixed(pool, x, y)
        self.refused(NoGame, (3, 6), fixed, pool, 3, 6)
        self.refused(NoGame, (0, 7), fixed, pool, 0, 7)
        self.exactly(fixed(pool, 3, 7).told, ((0, 4), (1, 5), (2, 6), (3, 7)))

    def test_a_game_that_leaves_another_one_short(self):
        pool = pool_of_exits(plain(4), (1, 1, 0, 0))
        self.exactly(fixed(pool, 0, 3).told, ((0, 3),))
        pool = pool_of_exits(plain(4), (1, 0, 1, 0))
        self.refused(NoGame, (0, 3), fixed, pool, 0, 3)
        self.exactly(fixed(pool, 0, 1).told, ((0, 1),))


class Rests(Case):
    def test_rested(self):
        for pool, _ in some_pools(81, 150, 1, 7, 150):
            every = listed(pool)
            for r in range(1, len(pool.halls) + 1):
                for y in range(pool.field.n):
                    able = y in through(pool.exits, r)
                    having = [cup for cup in every if able and (r, y) not in cup]
                    if not having:
                        self.refused(NoRest, (r, y), rested, pool, r, y)
                        continue
                    found = rested(pool, r, y)
                    hall = tuple(z for z in pool.halls[r - 1] if z != y)
                    halls = pool.halls[:r - 1] + (hall,) + pool.halls[r:]
                    self.exactly(picture_of(found), picture_of(pool)[:2] + (halls, pool.told))
                    self.assertEqual(sorted(listed(found)), sorted(having))

    def test_errors(self):
        pool = pool_of(plain(8), C, loose=(1, 2))
        for r in (0, 4, -1, HUGE):
            self.refused(BadRound, r, rested, pool, r, 99)
        for y in (-1, 8, HUGE):
            self.refused(BadSide, y, rested, pool, 1, y)
        self.refused(NoRest, (1, 0), rested, pool, 1, 0)
        self.refused(NoRest, (1, 7), rested, pool, 1, 7)
        self.refused(BadRound, 1, rested, pool_of_exits(plain(3), (0, 0, 0)), 1, 0)
        loose = pool_of(plain(8), ((1, 4),) + (S,) * 7, loose=(1,))
        self.exactly(rested(loose, 1, 4).halls, ((1, 2, 3, 5, 6, 7),))
        self.refused(NoRest, (1, 4), rested, fixed(loose, 0, 4), 1, 4)
        self.exactly(rested(fixed(loose, 0, 4), 1, 5).halls, ((1, 2, 3, 4, 6, 7),))
        # Who is not in the hall but comes through rests already.
        strict = pool_of(plain(8), ((1, 4),) + (S,) * 7)
        self.exactly(picture_of(rested(strict, 1, 5)), picture_of(strict))
        self.refused(NoRest, (1, 4), rested, strict, 1, 4)


class Both(Case):
    def test_both(self):
        draw = random.Random(82)
        some, none = 0, 0
        for pool, cup in some_pools(83, 250, 2, 7, 150):
            every = listed(pool)
            second = some_pool(draw.choice(listed(pool_of_exits(pool.field, pool.exits))[:300]), pool.field, draw)
            third = some_pool(cup, made_field(pool.field.strengths, pool.field.guards), draw)
            for other in (second, third, pool):
                common = [one for one in every if one in listed(other)]
                found = both_pools(pool, other)
                if not common:
                    self.assertIs(found, None)
                    none += 1
                    continue
                some += 1
                halls = tuple(tuple(y for y in a if y in b) for a, b in zip(pool.halls, other.halls))
                told = tuple(sorted(set(pool.told + other.told)))
                self.exactly(picture_of(found), picture_of(pool)[:2] + (halls, told))
                self.assertEqual(sorted(listed(found)), sorted(common))
        self.assertGreater(min(some, none), 30)

    def test_told_games_that_exclude_one_another(self):
        field = ranked((0,) * 6)
        pool = pool_of_exits(field, (1, 1, 0, 0, 0, 0))
        self.assertIs(both_pools(fixed(pool, 0, 2), fixed(pool, 0, 3)), None)
        self.assertIs(both_pools(fixed(pool, 0, 2), fixed(pool, 1, 2)), None)
        self.assertIs(both_pools(fixed(pool, 0, 2), rested(pool, 1, 2)), None)
        self.exactly(both_pools(fixed(pool, 1, 3), fixed(pool, 0, 2)).told, ((0, 2), (1, 3)))
        narrow = rested(rested(pool, 1, 2), 1, 3)
        self.assertIs(both_pools(narrow, rested(rested(pool, 1, 4), 1, 5)), None)
        self.assertIs(both_pools(narrow, rested(pool, 1, 4)), None)
        # One winner may win told games of two rounds.
        pool = pool_of_exits(field, (1, 2, 0, 0, 0, 0))
        self.exactly(both_pools(fixed(pool, 0, 2), fixed(pool, 1, 2)).told, ((0, 2), (1, 2)))

    def test_errors(self):
        pool = pool_of(plain(4), ((1, 1), S, S, S))
        for field in (plain(3), ranked((0, 1, 2, 4)), made_field((0, 1, 2, 3), (0, 1, 2, 2)),
                      made_field((0, 1, 2, 4), (0, 1, 2, 3))):
            other = pool_of(field, (S,) * field.n)
            self.refused(Unlike, 0, both_pools, pool, other)
            self.refused(Unlike, 0, both_pools, other, pool)
        self.refused(Unlike, 1, both_pools, pool, pool_of(plain(4), (S, (1, 3), S, S)))
        self.refused(Unlike, 1, both_pools, pool, pool_of(ranked((0, 1, 2, 3)), (S,) * 4))
        self.exactly(picture_of(both_pools(pool, pool_of(ranked((0, 1, 2, 3)), ((1, 1), S, S, S)))), picture_of(pool))


class Moved(Case):
    def test_moved(self):
        draw = random.Random(84)
        kinds = {"moved": 0, NoGame: 0, TooFew: 0}
        for pool, _ in some_pools(85, 200, 1, 7, 150):
            n = pool.field.n
            for _ in range(3):
                field = made_field(tuple(draw.randrange(n + 1) for _ in range(n)),
                                   tuple(draw.randrange(n // 2 + 1) for _ in range(n)))
                kinds[self.told(pool, field)] += 1
        self.assertGreater(min(kinds.values()), 20)

    def told(self, pool, field):
        for x, y in pool.told:
            if field.strengths[y] < field.guards[x]:
                self.refused(NoGame, (x, y), moved, pool, field)
                return NoGame
        for r in range(1, len(pool.halls) + 1):
            played = [(x, y) for x, y in pool.told if pool.exits[x] == r]
            losing = [x for x, last in enumerate(pool.exits) if last == r and x not in dict(played)]
            hall = [y for y in pool.halls[r - 1] if y not in [z for _, z in played]]
            strengths = tuple(field.strengths[y] for y in hall)
            if not fillings(tuple(field.guards[x] for x in losing), strengths):
                row = sorted(losing, key=lambda x: (-field.guards[x], x))
                able = [len([s for s in strengths if s >= field.guards[x]]) - place for place, x in enumerate(row)]
                x = [x for x, many in zip(row, able) if many < 1][0]
                self.refused(TooFew, (r, x), moved, pool, field)
                return TooFew
        found = moved(pool, field)
        self.exactly(picture_of(found), ((field.n, field.strengths, field.guards),) + picture_of(pool)[1:])
        self.exactly(size(found), len(listed(found)))
        return "moved"

    def test_edges(self):
        pool = pool_of(plain(8), C)
        for n in (1, 7, 9, 32):
            self.refused(Unlike, n, moved, pool, plain(n))
        self.exactly(size(moved(pool, made_field(tuple(range(8)), (6, 1, 2, 3, 4, 5, 6, 7)))), 24)
        self.exactly(size(moved(pool, margined(tuple(range(8)), 9))), 48)
        self.refused(TooFew, (1, 0), moved, pool, ranked((9, 0, 0, 0, 5, 5, 5, 5)))
        self.refused(NoGame, (1, 5), moved, fixed(fixed(pool, 1, 5), 0, 4), ranked((0, 9, 0, 0, 5, 5, 5, 5)))
        self.exactly(picture_of(moved(pool, plain(8))), picture_of(pool))
