import itertools

from boutstairs.errors import BadGuard, BadPair, BadSide, BadSize, BadStrength, Unlike
from boutstairs.fieldlooks import beaters, is_plain, may_beat, prey, stair_row, winner_of
from boutstairs.fieldmakes import beside_fields, eased, kept_field, margined, plain, ranked, roomier, within
from boutstairs.fields import Field, is_field, made_field
from tests.helpers import ODD, Case, with_odd_parts

TOP = 10 ** 9
HUGE = 10 ** 300


def both(field):
    return (field.n, field.strengths, field.guards)


def small_fields(n, numbers=(0, 1)):
    for row in itertools.product(numbers, repeat=2 * n):
        yield made_field(row[:n], row[n:])


class Making(Case):
    def test_attributes(self):
        for n in (1, 2, 31, 32):
            strengths, guards = tuple(range(n)), tuple(range(-n, 0))
            field = made_field(strengths, guards)
            self.assertIs(type(field), Field)
            self.exactly(both(field), (n, strengths, guards))

    def test_bounds(self):
        self.exactly(both(made_field((TOP, -TOP), (-TOP, TOP))), (2, (TOP, -TOP), (-TOP, TOP)))
        for far in (TOP + 1, -TOP - 1, HUGE, -HUGE):
            self.refused(BadStrength, 1, made_field, (0, far, far), (0, 0, 0))
            self.refused(BadGuard, 2, made_field, (0, 0, 0, 0), (0, TOP, far, far))
            self.is_no(is_field((0, far), (0, 0)))
            self.is_no(is_field((0, 0), (far, 0)))

    def test_errors_in_their_order(self):
        self.refused(BadSize, 0, made_field, (), ())
        self.refused(BadSize, 0, made_field, (), (1,))
        self.refused(BadSize, 33, made_field, (HUGE,) * 33, (HUGE,) * 33)
        self.refused(BadStrength, 0, made_field, (HUGE, HUGE), (HUGE,))
        self.refused(Unlike, 1, made_field, (0, 0), (HUGE,))
        self.refused(Unlike, 3, made_field, (0, 0), (HUGE, 0, 0))
        self.refused(Unlike, 0, made_field, (0, 0), ())
        self.refused(BadGuard, 0, made_field, (0, 0), (HUGE, HUGE))

    def test_judge(self):
        for n in (1, 2, 32):
            self.is_yes(is_field((TOP,) * n, (-TOP,) * n))
        self.is_no(is_field((), ()))
        self.is_no(is_field((0,) * 33, (0,) * 33))
        self.is_no(is_field((0, 0), (0,)))
        self.is_no(is_field((0,), (0, 0)))

    def test_judge_of_odd_things(self):
        good = (5, 6, 7)
        for odd in with_odd_parts(good):
            fits = isinstance(odd, tuple) and len(odd) == 3 and all(isinstance(x, int) and abs(x) < 99 for x in odd)
            self.assertIs(is_field(odd, good), fits)
            self.assertIs(is_field(good, odd), fits)
        for one in ODD:
            for two in ODD:
                self.is_no(is_field(one, two))


class Looking(Case):
    def test_who_may_beat(self):
        field = made_field((5, 3, 3, -2), (4, 3, 9, -2))
        self.is_yes(may_beat(field, 0, 1))
        self.is_no(may_beat(field, 1, 0))
        self.is_yes(may_beat(field, 2, 1))
        self.is_no(may_beat(field, 0, 0))
        self.is_no(may_beat(field, 3, 3))
        self.is_yes(may_beat(field, 1, 3))
        for n in (1, 2, 3):
            for field in small_fields(n):
                sides = range(n)
                told = {(y, x) for y in sides for x in sides if y != x and field.strengths[y] >= field.guards[x]}
                for x in sides:
                    for y in sides:
                        self.assertIs(may_beat(field, y, x), (y, x) in told)
                    self.exactly(beaters(field, x), tuple(y for y in sides if (y, x) in told))
                    self.exactly(prey(field, x), tuple(y for y in sides if (x, y) in told))

    def test_winner(self):
        field = made_field((5, 3, 3, -2), (4, 3, 9, 6))
        for x, y, won in ((0, 1, 0), (1, 0, 0), (1, 2, 2), (2, 1, 2), (0, 3, None), (3, 0, None)):
            self.gives(winner_of, (field, x, y), won)
        self.gives(winner_of, (ranked((4, 4)), 0, 1), None)
        self.gives(winner_of, (plain(32), 31, 0), 31)

    def test_looks_refuse(self):
        field = plain(3)
        for x in (-1, 3, HUGE, -HUGE):
            self.refused(BadSide, x, may_beat, field, x, 7)
            self.refused(BadSide, x, may_beat, field, 0, x)
            self.refused(BadSide, x, beaters, field, x)
            self.refused(BadSide, x, prey, field, x)
            self.refused(BadSide, x, winner_of, field, x, 8)
            self.refused(BadSide, x, winner_of, field, 2, x)
            self.refused(BadSide, x, winner_of, field, x, x)
        self.refused(BadPair, 2, winner_of, field, 2, 2)
        self.refused(BadPair, 0, winner_of, field, 0, 0)

    def test_plain(self):
        for n in (1, 2, 5, 32):
            self.is_yes(is_plain(plain(n)))
        self.is_yes(is_plain(ranked((7, -3, 0))))
        self.is_no(is_plain(ranked((7, -3, 7))))
        self.is_no(is_plain(made_field((1, 2), (1, 1))))
        self.is_no(is_plain(made_field((1, 2), (2, 1))))
        self.is_no(is_plain(margined((1, 2), 1)))

    def test_stair_row(self):
        field = made_field((0,) * 6, (3, 5, 3, -9, 5, 4))
        self.gives(stair_row, (field, (0, 1, 2, 3, 4, 5)), (1, 4, 5, 0, 2, 3))
        self.gives(stair_row, (field, (0, 2, 3)), (0, 2, 3))
        self.gives(stair_row, (field, (2, 5)), (5, 2))
        self.gives(stair_row, (field, ()), ())
        self.gives(stair_row, (ranked((1,)), (0,)), (0,))
        self.gives(stair_row, (plain(32), tuple(range(32))), tuple(range(31, -1, -1)))
        self.gives(stair_row, (ranked((4,) * 32), tuple(range(32))), tuple(range(32)))

    def test_stair_row_refuses(self):
        field = plain(4)
        for sides, bad in (((4,), 4), ((-1, 9), -1), ((0, 0), 0), ((0, 2, 1, 9), 1), ((1, HUGE), HUGE), ((3, 3, 4), 3)):
            self.refused(BadSide, bad, stair_row, field, sides)
            self.refused(BadSide, bad, kept_field, field, sides)


class Fieldmakes(Case):
    def test_plain(self):
        for n in (1, 2, 17, 32):
            self.exactly(both(plain(n)), (n, tuple(range(n)), tuple(range(n))))
        for n in (0, -1, 33, HUGE, -HUGE):
            self.refused(BadSize, n, plain, n)

    def test_ranked(self):
        self.exactly(both(ranked((3, 3, -TOP, TOP))), (4, (3, 3, -TOP, TOP), (3, 3, -TOP, TOP)))
        self.refused(BadSize, 0, ranked, ())
        self.refused(BadSize, 33, ranked, tuple(range(33)))
        self.refused(BadStrength, 1, ranked, (0, TOP + 1, HUGE))

    def test_margined(self):
        self.exactly(both(margined((3, 0, 9), 2)), (3, (3, 0, 9), (1, -2, 7)))
        self.exactly(both(margined((3, 0), -2)), (2, (3, 0), (5, 2)))
        self.exactly(both(margined((3, 0), 0)), (2, (3, 0), (3, 0)))
        self.exactly(both(margined((TOP,), 2 * TOP)), (1, (TOP,), (-TOP,)))
        self.refused(BadSize, 0, margined, (), HUGE)
        self.refused(BadSize, 33, margined, (HUGE,) * 33, HUGE)
        self.refused(BadStrength, 1, margined, (0, HUGE), HUGE)
        self.refused(BadGuard, 1, margined, (TOP, 0), TOP + 1)
        self.refused(BadGuard, 0, margined, (TOP, 0), -1)
        self.refused(BadGuard, 0, margined, (0, 0), HUGE)

    def test_eased(self):
        field = made_field((1, 2, 3), (4, 5, 6))
        self.exactly(both(eased(field, 1, 2, 5)), (3, (1, 2, 3), (4, 5, 6)))
        self.exactly(both(eased(field, 1, 7, -8)), (3, (1, 7, 3), (4, -8, 6)))
        self.exactly(both(eased(field, 0, TOP, -TOP)), (3, (TOP, 2, 3), (-TOP, 5, 6)))
        self.exactly(both(eased(field, 2, 3, 0)), (3, (1, 2, 3), (4, 5, 0)))
        self.exactly(both(field), (3, (1, 2, 3), (4, 5, 6)))
        for x in (-1, 3, HUGE):
            self.refused(BadSide, x, eased, field, x, -HUGE, HUGE)
        for strength in (1, TOP + 1, -HUGE, HUGE):
            self.refused(BadStrength, strength, eased, field, 1, strength, 6)
        for guard in (6, -TOP - 1, -HUGE, HUGE):
            self.refused(BadGuard, guard, eased, field, 1, 2, guard)

    def test_kept(self):
        field = made_field((1, 2, 3, 4), (5, 6, 7, 8))
        self.exactly(both(kept_field(field, (0, 2, 3))), (3, (1, 3, 4), (5, 7, 8)))
        self.exactly(both(kept_field(field, (1,))), (1, (2,), (6,)))
        self.exactly(both(kept_field(field, (0, 1, 2, 3))), both(field))
        self.refused(BadSize, 0, kept_field, field, ())

    def test_beside(self):
        one, two = made_field((1, 2), (3, 4)), made_field((5,), (6,))
        self.exactly(both(beside_fields(one, two)), (3, (1, 2, 5), (3, 4, 6)))
        self.exactly(both(beside_fields(two, one)), (3, (5, 1, 2), (6, 3, 4)))
        self.assertEqual(beside_fields(plain(31), plain(1)).n, 32)
        self.assertEqual(beside_fields(plain(16), plain(16)).n, 32)
        self.refused(BadSize, 33, beside_fields, plain(32), plain(1))
        self.refused(BadSize, 64, beside_fields, plain(32), plain(32))

    def test_roomier_and_within(self):
        for one in small_fields(2):
            for two in small_fields(2):
                room = all(two.strengths[x] >= one.strengths[x] and two.guards[x] <= one.guards[x] for x in (0, 1))
                inside = all(may_beat(two, y, x) for x, y in ((0, 1), (1, 0)) if may_beat(one, y, x))
                self.assertIs(roomier(one, two), room)
                self.assertIs(within(one, two), inside)
                if room:
                    self.assertTrue(inside)
        self.is_yes(within(plain(3), ranked((5, 6, 7))))
        self.is_no(roomier(ranked((5, 6, 7)), plain(3)))
        self.is_yes(roomier(plain(1), plain(1)))
        self.is_no(within(plain(3), ranked((0, 2, 1))))
        self.refused(Unlike, 2, roomier, plain(3), plain(2))
        self.refused(Unlike, 3, roomier, plain(2), plain(3))
        self.refused(Unlike, 1, within, plain(32), plain(1))
        self.refused(Unlike, 32, within, plain(1), plain(32))
