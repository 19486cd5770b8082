import itertools
import random

from boutstairs.boards import board_choices, seat_choices
from boutstairs.errors import BadExit, BadRecord, BadRound, BadRounds, BadSize, TooFew, Unlike
from boutstairs.fieldmakes import margined, plain, ranked
from boutstairs.narrowing import fixed
from boutstairs.pools import (
    Pool, beater_choices, choices, hall_free, holds, losers_free, pool_of, pool_of_exits, pool_of_records, size)
from boutstairs.records import records
from boutstairs.ways import same
from tests.helpers import BAD_CUPS, ODD, S, Case, cups_of, with_odd_parts
from tests.listings import all_exits, listed, may, picture_of, some_pools, through

HUGE = 10 ** 300
C = ((1, 4), (1, 5), (1, 6), (1, 7), (2, 6), (2, 7), (3, 7), S)
FIELDS = (plain(4), ranked((0, 0, 0, 0)), margined((0, 1, 2, 3), 1), ranked((0, 1, 1, 0)))


def wins_in(cup, r):
    return tuple(sorted(y for last, y in cup if last == r))


class Making(Case):
    def test_attributes(self):
        for field in FIELDS:
            for cup in cups_of(field):
                exits = all_exits(cup)
                every = tuple(through(exits, r) for r in range(1, max(exits) + 1))
                winning = tuple(wins_in(cup, r) for r in range(1, max(exits) + 1))
                told = (field.n, field.strengths, field.guards), exits
                self.exactly(picture_of(pool_of_exits(field, exits)), told + (every, ()))
                self.exactly(picture_of(pool_of_records(field, records(field, cup))), told + (winning, ()))
                for loose in ((), (1,), (2,), (1, 3, HUGE)):
                    halls = tuple((every if r in loose else winning)[r - 1] for r in range(1, max(exits) + 1))
                    self.exactly(picture_of(pool_of(field, cup, loose=loose)), told + (halls, ()))

    def test_pools_hold_what_they_should(self):
        for field in FIELDS:
            cups = cups_of(field)
            for one in cups[::max(1, len(cups) // 15)]:
                for loose in ((), (1,), (2, 3), (1, 2, HUGE)):
                    kin = [cup for cup in cups if same(field, one, cup, loose=loose)]
                    self.has(pool_of(field, one, loose=loose), kin, cups)
                alike = [cup for cup in cups if all_exits(cup) == all_exits(one)]
                self.has(pool_of_exits(field, all_exits(one)), alike, cups)
                alike = [cup for cup in cups if records(field, cup) == records(field, one)]
                self.has(pool_of_records(field, records(field, one)), alike, cups)

    def has(self, pool, expected, cups):
        self.exactly(size(pool), len(expected))
        self.assertEqual(sorted(listed(pool)), sorted(expected))
        for cup in cups:
            self.assertIs(holds(pool, cup), cup in expected)

    def test_exits_and_records_that_none_has(self):
        field = plain(4)
        self.refused(TooFew, (1, 1), pool_of_exits, field, (0, 1, 1, 2))
        self.refused(TooFew, (1, 3), pool_of_exits, field, (0, 2, 2, 1))
        self.refused(Unlike, 3, pool_of_exits, field, (0, -1, 1))
        self.refused(BadExit, 1, pool_of_exits, field, (0, -1, 5, -1))
        self.refused(BadRounds, 2, pool_of_exits, field, (0, 1, HUGE, 1))
        self.refused(TooFew, (1, 0), pool_of_exits, plain(1), (1,))
        self.refused(TooFew, (1, 1), pool_of_records, plain(2), ((1,), (-1,)))
        self.refused(BadSize, 0, pool_of_records, field, ())
        self.refused(BadRecord, (0, 0), pool_of_records, field, ((2,),))
        self.refused(BadRounds, 1, pool_of_records, field, ((-1,),))
        self.refused(Unlike, 2, pool_of_records, field, ((1,), (-1,)))

    def test_errors_of_pool_of(self):
        self.asks_cup(pool_of, loose=(0,))
        self.asks_loose(pool_of, plain(8), C)


class Looks(Case):
    def test_free_ones_and_choices(self):
        seen = 0
        for pool, _ in some_pools(70, 250):
            told = {}
            for x, y in pool.told:
                told.setdefault(pool.exits[x], []).append((x, y))
            for r in range(1, len(pool.halls) + 1):
                played = told.get(r, [])
                losing = tuple(x for x, last in enumerate(pool.exits) if last == r and x not in dict(played))
                hall = tuple(y for y in pool.halls[r - 1] if y not in [y for _, y in played])
                self.gives(losers_free, (pool, r), losing)
                self.gives(hall_free, (pool, r), hall)
                guards = tuple(pool.field.guards[x] for x in losing)
                strengths = tuple(pool.field.strengths[y] for y in hall)
                self.gives(choices, (pool, r), tuple((losing[i], k) for i, k in board_choices(guards, strengths)))
                seats = seat_choices(guards, strengths)
                if seats is not None:
                    seats = tuple((hall[j], k) for j, k in seats)
                    seen += 1
                self.gives(beater_choices, (pool, r), seats)
            self.exactly(size(pool), len(listed(pool)))
        self.assertGreater(seen, 40)

    def test_choices_whatever_was_taken_before(self):
        for pool, _ in some_pools(71, 60, 3, 7, 200):
            for r in range(1, len(pool.halls) + 1):
                hall = hall_free(pool, r)
                row = choices(pool, r)
                self.assertEqual(list(row), sorted(row, key=lambda pair: (-pool.field.guards[pair[0]], pair[0])))
                begun = [()]
                for x, many in row:
                    ahead = []
                    for taken in begun:
                        able = [y for y in hall if may(pool.field, y, x) and y not in taken]
                        self.assertEqual(len(able), many)
                        ahead.extend(taken + (y,) for y in able)
                    begun = ahead

    def test_the_pool_of_the_document(self):
        pool = pool_of(plain(8), C)
        self.gives(choices, (pool, 1), ((3, 4), (2, 3), (1, 2), (0, 1)))
        self.gives(choices, (pool, 2), ((5, 2), (4, 1)))
        self.gives(choices, (pool, 3), ((6, 1),))
        self.gives(size, (pool,), 48)
        self.gives(beater_choices, (pool, 1), ((4, 4), (5, 3), (6, 2), (7, 1)))
        self.gives(losers_free, (pool, 2), (4, 5))
        self.gives(hall_free, (pool, 2), (6, 7))
        told = fixed(pool, 0, 7)
        self.gives(losers_free, (told, 1), (1, 2, 3))
        self.gives(hall_free, (told, 1), (4, 5, 6))
        # A told game of round 1 binds nobody in another round.
        self.gives(hall_free, (told, 2), (6, 7))
        self.gives(beater_choices, (pool_of(plain(8), C, loose=(1, 2)), 2), ((6, 2), (7, 1)))
        self.gives(beater_choices, (pool_of(plain(4), ((1, 1), S, S, S), loose=(1,)), 1), None)

    def test_no_rounds(self):
        for field in (plain(1), plain(32)):
            for pool in (pool_of(field, (S,) * field.n, loose=(1,)), pool_of_exits(field, (0,) * field.n),
                         pool_of_records(field, ((),) * field.n)):
                self.exactly(picture_of(pool)[1:], ((0,) * field.n, (), ()))
                self.gives(size, (pool,), 1)
                self.gives(holds, (pool, (S,) * field.n), True)
                for call in (losers_free, hall_free, choices, beater_choices):
                    for r in (0, 1, -1, HUGE):
                        self.refused(BadRound, r, call, pool, r)

    def test_bad_rounds(self):
        pool = pool_of(plain(8), C)
        for call in (losers_free, hall_free, choices, beater_choices):
            for r in (0, 4, -1, HUGE, -HUGE):
                self.refused(BadRound, r, call, pool, r)

    def test_great_pools_come_soon(self):
        pool = pool_of_exits(ranked((0,) * 32), (1,) * 16 + (0,) * 16)
        self.assertEqual(self.soon(size, pool), 20922789888000)
        self.assertEqual(self.soon(choices, pool, 1), tuple((x, 16 - x) for x in range(16)))
        ladder = pool_of_exits(plain(32), tuple(range(1, 32)) + (0,))
        total = 1
        for many in range(1, 32):
            total *= many
        self.assertEqual(self.soon(size, ladder), total)


class Holding(Case):
    def test_every_cup_is_judged(self):
        for pool, _ in some_pools(72, 60, 1, 4):
            every = listed(pool)
            for cup in cups_of(pool.field):
                self.assertIs(holds(pool, cup), cup in every)
        draw = random.Random(73)
        for pool, cup in some_pools(74, 150):
            every = listed(pool)
            self.is_yes(holds(pool, cup))
            for other in draw.sample(every, min(5, len(every))):
                self.is_yes(holds(pool, other))
            wide = pool_of_exits(pool.field, pool.exits)
            for other in itertools.islice(listed(wide), 200):
                self.assertIs(holds(pool, other), other in every)

    def test_odd_things(self):
        pool = pool_of(plain(8), C)
        self.is_yes(holds(pool, C))
        for odd in with_odd_parts(C):
            self.is_no(holds(pool, odd))
        for odd in ODD:
            self.is_no(holds(pool, odd))
        small = pool_of(plain(4), ((1, 1), S, S, S), loose=(1,))
        for _, _, pairs in BAD_CUPS:
            self.is_no(holds(small, pairs))
        self.is_no(holds(fixed(pool, 0, 5), C))
        self.is_no(holds(pool, C[:6] + (S, (3, 6))))

    def test_it_is_a_class(self):
        self.assertIsInstance(pool_of(plain(8), C), Pool)
