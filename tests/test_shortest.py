import random

from boutstairs.deeds import offers
from boutstairs.done import done
from boutstairs.errors import BadCount, BadLoose, BadRow, NotSame, TooMany
from boutstairs.fieldmakes import margined, plain, ranked
from boutstairs.fields import made_field
from boutstairs.judged import run_right
from boutstairs.pools import pool_of
from boutstairs.rule import fewest
from boutstairs.shortest import shortest_at, shortest_count, shortest_rank
from boutstairs.ways import same, ways
from tests.helpers import S, Case, cups_of
from tests.listings import listed, some_pools
from tests.test_deeds import NO_DEEDS

HUGE = 10 ** 300
C = ((1, 4), (1, 5), (1, 6), (1, 7), (2, 6), (2, 7), (3, 7), S)
RING = ((1, 5), (1, 6), (1, 4)) + C[3:]
CHAINED = made_field((0, 0, 1, 1, 1), (0, 0, 9, 9, 9))
ONE, TWO = ((1, 2), (1, 3), S, S, S), ((1, 3), (1, 4), S, S, S)


def turned(many, by, first=0):
    """The pairs of some losers, each of whom loses to a side by places on."""
    return tuple((1, 16 + first + (x + by) % many) for x in range(many))


def shortest(field, one, two, loose):
    """All runs of the fewest deeds, ascending, by trying all deeds."""
    far = fewest(field, one, two, loose=loose)
    if far == 0:
        return [()]
    found = []
    for deed in offers(field, one, loose=loose):
        behind = done(field, one, deed, loose=loose)
        if fewest(field, behind, two, loose=loose) == far - 1:
            found.extend([(deed,) + run for run in shortest(field, behind, two, loose)])
    return found


class Listed(Case):
    def told(self, field, one, two, loose):
        runs = shortest(field, one, two, loose)
        self.assertEqual(runs, sorted(runs))
        self.exactly(shortest_count(field, one, two, loose=loose), len(runs))
        for k, run in enumerate(runs):
            if len(runs) < 50 or k % 7 == 0:
                self.exactly(shortest_at(field, one, two, k, loose=loose), run)
                self.exactly(shortest_rank(field, one, two, run, loose=loose), k)
        for k in (-1, len(runs), HUGE):
            self.refused(BadCount, k, shortest_at, field, one, two, k, loose=loose)
        self.bad_runs(field, one, two, runs, loose)

    def bad_runs(self, field, one, two, runs, loose):
        """Runs that go astray at any of their deeds, end too early or go on."""
        first = runs[len(runs) // 2]
        for index in range(len(first)):
            self.refused(BadRow, index, shortest_rank, field, one, two, first[:index], loose=loose)
            begun = [run[:index + 1] for run in runs]
            for deed in NO_DEEDS + offers(field, one, loose=loose) + (("exchange", 0, 1), ("shift", 0, 1)):
                if first[:index] + (deed,) not in begun:
                    bad = first[:index] + (deed,) + first[index:]
                    self.refused(BadRow, index, shortest_rank, field, one, two, bad, loose=loose)
        for deed in NO_DEEDS[:2] + (("exchange", 0, 1),):
            self.refused(BadRow, len(first), shortest_rank, field, one, two, first + (deed,), loose=loose)

    def test_all_cups_of_small_fields(self):
        draw = random.Random(40)
        for field in (plain(4), ranked((0, 0, 0, 0)), margined((0, 1, 2, 3), 1),
                      made_field((0, 0, 5, 7, 6), (0, 0, 9, 9, 9)), ranked((0, 0, 0, 1, 1))):
            cups = cups_of(field)
            for loose in ((), (1,), (2,), (1, 2, 3)):
                for _ in range(6):
                    one = draw.choice(cups)
                    kin = [cup for cup in cups if same(field, one, cup, loose=loose)]
                    self.told(field, one, draw.choice(kin), loose)

    def test_pools_of_up_to_eight_sides(self):
        draw = random.Random(41)
        for pool, one in some_pools(42, 60, 5, 8, 150):
            loose = tuple(r for r in range(1, 5) if draw.random() < 0.6)
            kin = listed(pool_of(pool.field, one, loose=loose))
            two = draw.choice(kin)
            if fewest(pool.field, one, two, loose=loose) <= 4:
                self.told(pool.field, one, two, loose)

    def test_one_round_with_guards_in_the_way(self):
        draw = random.Random(43)
        for _ in range(80):
            losing, winning = draw.choice(((3, 3), (4, 4), (3, 4), (4, 5), (5, 5), (3, 6)))
            strengths = (0,) * losing + tuple(draw.randrange(1, 5) for _ in range(winning))
            guards = tuple(draw.randrange(4) for _ in range(losing)) + (0,) * winning
            field = made_field(strengths, guards)
            able = [tuple((1, y) for y in beaters) + (S,) * winning for beaters in self.seatings(field, losing)]
            if able:
                self.told(field, draw.choice(able), draw.choice(able), (1,))

    def seatings(self, field, losing, taken=()):
        if len(taken) == losing:
            return [taken]
        found = []
        for y in range(losing, field.n):
            if y not in taken and field.strengths[y] >= field.guards[len(taken)]:
                found.extend(self.seatings(field, losing, taken + (y,)))
        return found


class Edges(Case):
    def test_examples(self):
        self.gives(shortest_count, (plain(8), C, RING), 3)
        runs = [(("exchange", 0, 1), ("exchange", 1, 2)), (("exchange", 0, 2), ("exchange", 0, 1)),
                (("exchange", 1, 2), ("exchange", 0, 2))]
        for k, run in enumerate(runs):
            self.gives(shortest_at, (plain(8), C, RING, k), run)
            self.gives(shortest_rank, (plain(8), C, RING, run), k)
        self.exactly(shortest_count(CHAINED, ONE, TWO, loose=(1,)), 3)
        self.exactly(shortest_at(CHAINED, ONE, TWO, 2, loose=(1,)), (("shift", 1, 4), ("shift", 0, 3)))

    def test_equal_cups(self):
        for field, cup in ((plain(1), (S,)), (plain(2), (S, S)), (plain(8), C)):
            self.gives(shortest_count, (field, cup, cup), 1)
            self.gives(shortest_at, (field, cup, cup, 0), ())
            self.gives(shortest_rank, (field, cup, cup, ()), 0)
            self.refused(BadCount, 1, shortest_at, field, cup, cup, 1)
            self.refused(BadRow, 0, shortest_rank, field, cup, cup, (("exchange", 0, 1),))
            self.refused(BadRow, 0, shortest_rank, field, cup, cup, ((), ()))

    def test_circles_of_eight_and_more(self):
        field, eased = plain(32), ranked((0,) * 32)
        one = tuple((1, x + 16) for x in range(16)) + (S,) * 16
        # Rings of n have n ** (n - 2) shortest runs, and the deeds of two rings mix in any order.
        for many in range(2, 9):
            two = turned(many, 1) + one[many:]
            self.assertEqual(self.soon(shortest_count, field, one, two), many ** (many - 2))
        two = turned(8, 1) + turned(8, 3, 8) + one[16:]
        total = 3432 * 8 ** 12
        self.assertEqual([kind for _, kind, _ in ways(field, one, two)], ["ring", "ring"])
        self.assertEqual(self.soon(shortest_count, field, one, two), total)
        for k in (0, 1, total // 3, total - 1):
            run = self.soon(shortest_at, field, one, two, k)
            self.assertEqual(self.soon(shortest_rank, field, one, two, run), k)
            self.is_yes(run_right(field, one, run, two))
        self.refused(BadCount, total, shortest_at, field, one, two, total)
        for many in (9, 10, 16):
            self.too_many(field, one, turned(many, 1) + one[many:], many, ())
        # A chain of seven and its guest are eight.
        chained = tuple((1, x + 16) for x in range(8)) + (S,) * 24
        for many in (1, 2, 7):
            two = tuple((1, x + 17) for x in range(many))
            before = tuple((1, x + 16) for x in range(many)) + (S,) * (32 - many)
            two = two + (S,) * (32 - many)
            count = self.soon(shortest_count, eased, before, two, loose=(1,))
            self.assertEqual(count, (many + 1) ** (many - 1))
            run = shortest_at(eased, before, two, count - 1, loose=(1,))
            self.assertEqual(shortest_rank(eased, before, two, run, loose=(1,)), count - 1)
            self.is_yes(run_right(eased, before, run, two, loose=(1,)))
        self.too_many(eased, chained, tuple((1, x + 17) for x in range(8)) + (S,) * 24, 9, (1,))

    def too_many(self, field, one, two, what, loose):
        self.refused(TooMany, what, shortest_count, field, one, two, loose=loose)
        self.refused(TooMany, what, shortest_at, field, one, two, -1, loose=loose)
        self.refused(TooMany, what, shortest_rank, field, one, two, ((),), loose=loose)

    def test_first_great_circle_is_named(self):
        field = plain(32)
        one = tuple((1, x + 16) for x in range(16)) + (S,) * 16
        two = tuple((1, 16 + (x + 1) % 3) for x in range(3)) + tuple((1, 19 + (x - 2) % 13) for x in range(3, 16))
        self.assertEqual([len(row) for _, _, row in ways(field, one, two + one[16:])], [3, 13])
        self.too_many(field, one, two + one[16:], 13, ())
        # Rings of two rounds: that of the first round is named, be it the greater one or not.
        for first, second in ((9, 11), (11, 9), (8, 10), (2, 9)):
            one = tuple((1, 31 - x) for x in range(first)) + tuple((2, 31 - x) for x in range(second))
            two = tuple((1, 31 - (x + 1) % first) for x in range(first))
            two += tuple((2, 31 - (x + 1) % second) for x in range(second))
            rest = (S,) * (32 - len(one))
            self.too_many(field, one + rest, two + rest, first if first > 8 else second, ())


class Errors(Case):
    def test_cups_and_loose(self):
        good = ((1, 1), S, S, S)
        long = ((),) * 1001
        for call, more in ((shortest_count, ()), (shortest_at, (-1,)), (shortest_rank, (long,))):
            self.asks_cup(call, (), *more, loose=(0,))
            self.asks_second_cup(call, good, *more, loose=(0,))
        for call, more in ((shortest_count, ()), (shortest_at, (-1,)), (shortest_rank, (((),),))):
            self.asks_loose(call, plain(4), good, ((1, 2), S, S, S), *more)
            self.refused(NotSame, 0, call, plain(4), good, ((1, 2), S, S, S), *more)

    def test_length_of_the_run_comes_before_loose(self):
        good = ((1, 1), S, S, S)
        for many in (1001, 5000):
            self.refused(TooMany, many, shortest_rank, plain(4), good, ((1, 2), S, S, S), ((),) * many, loose=(0,))
        self.refused(BadLoose, 0, shortest_rank, plain(4), good, ((1, 2), S, S, S), ((),) * 1000, loose=(0,))
        self.refused(BadRow, 0, shortest_rank, plain(4), good, good, ((),) * 1000)
