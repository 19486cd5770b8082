import random

from boutstairs.between import between, between_at, between_count, between_rank, taken
from boutstairs.errors import BadCount, BadLoose, BadWay, NotSame
from boutstairs.fieldmakes import margined, plain, ranked
from boutstairs.fields import made_field
from boutstairs.poolranks import drawn
from boutstairs.pools import Pool, pool_of, pool_of_exits
from boutstairs.rule import fewest
from boutstairs.ways import same, ways
from tests.helpers import BAD_CUPS, S, Case, cups_of
from tests.listings import all_exits, listed, some_cup, some_field, some_pools

HUGE = 10 ** 300
C = ((1, 4), (1, 5), (1, 6), (1, 7), (2, 6), (2, 7), (3, 7), S)
RING = ((1, 5), (1, 6), (1, 4)) + C[3:]
CHAINED = made_field((0, 0, 1, 1, 1), (0, 0, 9, 9, 9))
ONE, TWO = ((1, 2), (1, 3), S, S, S), ((1, 3), (1, 4), S, S, S)
HALVES = tuple((1, x + 16) for x in range(16)) + (S,) * 16
TURNED = tuple((1, 16 + (x + 1) % 16) for x in range(16)) + (S,) * 16


class Listed(Case):
    def test_all_cups_of_small_fields(self):
        for field in (plain(4), ranked((0, 0, 0, 0)), margined((0, 1, 2, 3), 1),
                      made_field((0, 0, 5, 7, 6), (0, 0, 9, 9, 9)), ranked((0, 0, 0, 1, 1))):
            cups = cups_of(field)
            draw = random.Random(30)
            for loose in ((), (1,), (2,), (1, 2, 3)):
                for _ in range(12):
                    one = draw.choice(cups)
                    kin = [cup for cup in cups if same(field, one, cup, loose=loose)]
                    self.told(field, one, draw.choice(kin), kin, loose)

    def told(self, field, one, two, kin, loose):
        """Count, numbers and cups between, by looking at all that are same."""
        far = fewest(field, one, two, loose=loose)
        every = []
        for mid in kin:
            legs = fewest(field, one, mid, loose=loose) + fewest(field, mid, two, loose=loose)
            self.assertIs(between(field, one, mid, two, loose=loose), legs == far)
            if legs == far:
                every.append(mid)
            else:
                self.refused(BadCount, 0, between_rank, field, one, mid, two, loose=loose)
        every.sort()
        self.exactly(between_count(field, one, two, loose=loose), len(every))
        for k, mid in enumerate(every):
            self.exactly(between_at(field, one, two, k, loose=loose), mid)
            self.exactly(between_rank(field, one, mid, two, loose=loose), k)
        for k in (-1, len(every), HUGE):
            self.refused(BadCount, k, between_at, field, one, two, k, loose=loose)
        self.ways_taken(field, one, two, every, loose)

    def ways_taken(self, field, one, two, every, loose):
        rows = [row for _, _, row in ways(field, one, two, loose=loose)]
        for bits in range(min(2 ** len(rows), 16)):
            which = tuple(w for w in range(len(rows)) if bits >> w & 1)
            moved = [x for w in which for x in rows[w]]
            cup = tuple(two[x] if x in moved else one[x] for x in range(field.n))
            self.exactly(taken(field, one, two, which, loose=loose), cup)
            self.assertIn(cup, every)

    def test_pools_of_up_to_eight_sides(self):
        draw = random.Random(31)
        for pool, one in some_pools(32, 60, 5, 8, 150):
            # Told games and rests bind nobody here: the kin of the cup are all that are same with it.
            loose = tuple(r for r in range(1, 5) if draw.random() < 0.6)
            kin = self.kin(pool.field, one, loose)
            self.told(pool.field, one, draw.choice(kin), kin, loose)

    def kin(self, field, one, loose):
        kin = listed(pool_of(field, one, loose=loose))
        return kin if len(kin) <= 400 else [one]

    def test_one_round_with_guards_in_the_way(self):
        draw = random.Random(33)
        for _ in range(40):
            losing, winning = draw.choice(((4, 4), (4, 5), (5, 5), (3, 6)))
            strengths = (0,) * losing + tuple(draw.randrange(1, 5) for _ in range(winning))
            guards = tuple(draw.randrange(4) for _ in range(losing)) + (0,) * winning
            field = made_field(strengths, guards)
            kin = self.first_rounds(field, losing)
            if kin:
                self.told(field, draw.choice(kin), draw.choice(kin), kin, (1,))

    def first_rounds(self, field, losing):
        exits = (1,) * losing + (0,) * (field.n - losing)
        return listed(Pool(field, exits, (tuple(range(losing, field.n)),), ()))


class Edges(Case):
    def test_examples(self):
        self.exactly(between_count(CHAINED, ONE, TWO, loose=(1,)), 5)
        self.gives(between_count, (plain(8), C, RING), 5)
        self.gives(between, (plain(8), C, RING, RING), True)
        self.gives(between, (plain(8), C, C, RING), True)
        other = ((1, 6), (1, 4), (1, 5)) + C[3:]
        self.gives(between, (plain(8), C, other, RING), False)
        self.refused(BadCount, 0, between_rank, plain(8), C, other, RING)

    def test_equal_cups(self):
        for field, cup in ((plain(1), (S,)), (plain(2), (S, S)), (plain(8), C)):
            self.gives(between_count, (field, cup, cup), 1)
            self.gives(between_at, (field, cup, cup, 0), cup)
            self.gives(between_rank, (field, cup, cup, cup), 0)
            self.gives(between, (field, cup, cup, cup), True)
            self.gives(taken, (field, cup, cup, ()), cup)
            self.refused(BadCount, 1, between_at, field, cup, cup, 1)
            self.refused(BadWay, 0, taken, field, cup, cup, (0,))

    def test_great_circles_come_soon(self):
        field = plain(32)
        self.assertEqual(self.soon(between_count, field, HALVES, TURNED), 35357670)
        for k in (0, 1, 20000000, 35357669):
            cup = self.soon(between_at, field, HALVES, TURNED, k)
            self.assertEqual(self.soon(between_rank, field, HALVES, cup, TURNED), k)
        self.refused(BadCount, 35357670, between_at, field, HALVES, TURNED, 35357670)
        eased = ranked((0,) * 32)
        one = tuple((1, x + 16) for x in range(15)) + (S,) * 17
        two = tuple((1, x + 17) for x in range(15)) + (S,) * 17
        self.assertEqual(self.soon(between_count, eased, one, two, loose=(1,)), 35357670)
        cup = self.soon(between_at, eased, one, two, 777777, loose=(1,))
        self.assertEqual(self.soon(between_rank, eased, one, cup, two, loose=(1,)), 777777)

    def test_several_rounds(self):
        draw = random.Random(34)
        found = 0
        while found < 15:
            field = some_field(draw.randrange(16, 33), draw)
            one = some_cup(field, draw)
            two = some_cup(field, draw) if draw.random() < 0.1 else self.neighbour(field, one, draw)
            if all_exits(one) != all_exits(two):
                continue
            found += 1
            loose = tuple(range(1, 32))
            many = self.soon(between_count, field, one, two, loose=loose)
            for k in (0, many // 2, many - 1):
                cup = self.soon(between_at, field, one, two, k, loose=loose)
                self.assertEqual(self.soon(between_rank, field, one, cup, two, loose=loose), k)
                self.is_yes(between(field, one, cup, two, loose=loose))

    def neighbour(self, field, one, draw):
        return drawn(pool_of_exits(field, all_exits(one)), (draw.randrange(HUGE),))


class Errors(Case):
    def test_cups_and_loose(self):
        good = ((1, 1), S, S, S)
        for call, more in ((between_count, ()), (between_at, (-1,)), (taken, ((-1,),))):
            self.asks_cup(call, (), *more, loose=(0,))
            self.asks_second_cup(call, good, *more, loose=(0,))
            self.asks_loose(call, plain(4), good, ((1, 2), S, S, S), *more)
        for call in (between, between_rank):
            self.asks_cup(call, (), (), loose=(0,))
            self.asks_second_cup(call, good, (), loose=(0,))
            for error, what, pairs in BAD_CUPS:
                self.refused(error, what, call, plain(4), good, ((1, 2), S, S, S), pairs, loose=(0,))
            self.asks_loose(call, plain(4), good, ((1, 2), S, S, S), (S, S, S, S))

    def test_not_same(self):
        field = plain(4)
        one, two = ((1, 1), S, S, S), ((1, 2), S, S, S)
        for call, more in ((between_count, ()), (between_at, (-1,)), (taken, ((-1,),))):
            self.refused(NotSame, 0, call, field, one, two, *more)
            self.refused(NotSame, 0, call, field, one, two, *more, loose=(2,))
        for call in (between, between_rank):
            self.refused(NotSame, 0, call, field, one, two, two)
            self.refused(NotSame, 0, call, field, one, two, one)
            self.refused(NotSame, 1, call, field, one, one, two)
            self.refused(BadLoose, 1, call, field, one, two, two, loose=(1, 1))
            self.is_no(between(field, one, ((1, 3), S, S, S), two, loose=(1,)))
        self.refused(BadCount, 0, between_rank, field, one, ((1, 3), S, S, S), two, loose=(1,))

    def test_ways_in_order(self):
        field = ranked((0,) * 12)
        one = ((1, 6), (1, 7), (1, 8), (1, 9), (2, 8), (2, 9), (3, 7)) + (S,) * 5
        two = ((1, 7), (1, 6), (1, 9), (1, 10), (2, 9), (2, 8), (3, 11)) + (S,) * 5
        self.exactly(taken(field, one, two, (0, 3), loose=(1, 3)), two[:2] + one[2:6] + two[6:])
        self.exactly(taken(field, one, two, (0, 1, 2, 3), loose=(1, 3)), two)
        for index, which in ((0, (-1,)), (0, (4, 0)), (1, (0, 0)), (2, (1, 2, 1)), (2, (0, 3, 4)), (1, (3, HUGE)),
                             (0, (-HUGE,)), (4, (0, 1, 2, 3, 3))):
            self.refused(BadWay, index, taken, field, one, two, which, loose=(1, 3))
        self.refused(BadLoose, 0, taken, field, one, two, (9,), loose=(0,))
        self.refused(NotSame, 0, taken, field, one, two, (9,), loose=(1,))
