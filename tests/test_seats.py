import itertools
import math
import random

from boutstairs.cuplooks import plan_of
from boutstairs.cups import made_cup
from boutstairs.errors import BadSeat, BadSize, NotFull, Undecided, Unlike
from boutstairs.fieldmakes import margined, plain, ranked
from boutstairs.fields import made_field
from boutstairs.planmakers import full
from boutstairs.seatforms import least_seats, pairings, same_seats
from boutstairs.seats import cup_of_seats, seats_of
from tests.helpers import S, Case, cups_of

HUGE = 10 ** 300
C = ((1, 4), (1, 5), (1, 6), (1, 7), (2, 6), (2, 7), (3, 7), S)
POWERS = (1, 2, 4, 8, 16, 32)
NO_POWERS = (3, 5, 6, 7, 9, 12, 24, 31)


def exchanged(seats):
    """All rows that exchanges of halves make."""
    if len(seats) == 1:
        return [seats]
    half = len(seats) // 2
    found = []
    for left in exchanged(seats[:half]):
        for right in exchanged(seats[half:]):
            found.extend([left + right, right + left])
    return found


class Cups(Case):
    def test_cup_of_seats(self):
        field = plain(8)
        self.gives(cup_of_seats, (field, (0, 1, 2, 3, 4, 5, 6, 7)), (
            (1, 1), (2, 3), (1, 3), (3, 7), (1, 5), (2, 7), (1, 7), S))
        self.gives(cup_of_seats, (field, (7, 3, 5, 1, 6, 2, 4, 0)), C)
        self.gives(cup_of_seats, (plain(1), (0,)), (S,))
        self.gives(cup_of_seats, (plain(2), (1, 0)), ((1, 1), S))
        # Of each two just one may win, and 0 loses to 2 though it is not weaker.
        field = made_field((3, 2, 3, 0), (3, 3, 4, 0))
        self.gives(cup_of_seats, (field, (0, 1, 3, 2)), ((2, 2), (1, 0), S, (1, 2)))

    def test_undecided(self):
        field = margined((0, 1, 2, 9), 1)
        self.refused(Undecided, (0, 1), cup_of_seats, field, (3, 2, 0, 1))
        self.refused(Undecided, (1, 0), cup_of_seats, field, (1, 0, 2, 3))
        self.gives(cup_of_seats, (field, (0, 2, 1, 3)), ((1, 2), (1, 3), (2, 3), S))
        # The first game is asked for, not the first seats: all of round 1 come before round 2.
        field = made_field((5, 0, 5, 0), (5, 0, 5, 0))
        self.refused(Undecided, (0, 2), cup_of_seats, field, (0, 1, 2, 3))
        self.refused(Undecided, (2, 0), cup_of_seats, field, (2, 3, 1, 0))
        field = ranked((4,) * 8)
        self.refused(Undecided, (6, 2), cup_of_seats, field, (6, 2, 0, 1, 3, 4, 5, 7))
        field = ranked((0, 1, 1, 0, 2, 3, 4, 4))
        self.refused(Undecided, (7, 6), cup_of_seats, field, (0, 1, 3, 2, 4, 5, 7, 6))
        self.refused(Undecided, (1, 2), cup_of_seats, field, (0, 1, 3, 2, 4, 7, 5, 6))

    def test_seats_of(self):
        self.gives(seats_of, (plain(8), C), (7, 3, 5, 1, 6, 2, 4, 0))
        self.gives(seats_of, (plain(1), (S,)), (0,))
        self.gives(seats_of, (ranked((0, 0)), (S, (1, 0))), (0, 1))
        self.gives(seats_of, (ranked((0, 0)), ((1, 1), S)), (1, 0))

    def test_there_and_back(self):
        for n in (1, 2, 4):
            for field in (plain(n), ranked((5, 2, 9, 7)[:n])):
                fulls = [cup for cup in cups_of(field) if plan_of(field, cup) == full(n)]
                made = {cup_of_seats(field, seats) for seats in itertools.permutations(range(n))}
                self.assertEqual(made, set(fulls))
                for cup in fulls:
                    self.gives(cup_of_seats, (field, seats_of(field, cup)), cup)
        draw = random.Random(7)
        for n in (8, 16, 32):
            for _ in range(60):
                seats = tuple(draw.sample(range(n), n))
                cup = cup_of_seats(plain(n), seats)
                self.exactly(made_cup(plain(n), cup), cup)
                self.assertEqual(plan_of(plain(n), cup), full(n))
                back = seats_of(plain(n), cup)
                self.exactly(cup_of_seats(plain(n), back), cup)
                self.is_yes(same_seats(seats, back))

    def test_same_seats_have_one_cup(self):
        for one in itertools.permutations(range(4)):
            for two in itertools.permutations(range(4)):
                if same_seats(one, two):
                    self.assertEqual(cup_of_seats(plain(4), one), cup_of_seats(plain(4), two))

    def test_errors(self):
        for n in NO_POWERS:
            self.refused(BadSize, n, cup_of_seats, plain(n), ())
            self.refused(BadSize, n, cup_of_seats, plain(n), tuple(range(n)))
            self.refused(BadSize, n, seats_of, plain(n), ())
            self.refused(BadSize, n, seats_of, plain(n), (S,) * n)
        for many in (0, 3, 5, 33, 64):
            self.refused(BadSize, many, cup_of_seats, plain(4), (HUGE,) * many)
        for many in (1, 2, 8, 32):
            self.refused(Unlike, many, cup_of_seats, plain(4), (HUGE,) * many)
        for index, seats in ((0, (4, 0, 0, 1)), (1, (3, -1, 3, 9)), (2, (0, 1, 0, HUGE)), (3, (1, 2, 3, 1))):
            self.refused(BadSeat, index, cup_of_seats, ranked((0,) * 4), seats)
        self.asks_cup(seats_of)
        for cup in ((S,) * 4, ((1, 3), (1, 2), S, S), ((1, 3), (2, 3), (3, 3), S), ((1, 3), S, S, S)):
            self.refused(NotFull, 0, seats_of, plain(4), cup)
        self.refused(NotFull, 0, seats_of, plain(2), (S, S))


class Forms(Case):
    def test_least(self):
        for n in (1, 2, 4):
            for seats in itertools.permutations(range(n)):
                self.gives(least_seats, (seats,), min(exchanged(seats)))
        draw = random.Random(8)
        for _ in range(40):
            seats = tuple(draw.sample(range(8), 8))
            rows = exchanged(seats)
            self.assertEqual(len(rows), 2 ** 7)
            self.gives(least_seats, (seats,), min(rows))
            self.is_yes(same_seats(seats, draw.choice(rows)))
            other = tuple(draw.sample(range(8), 8))
            self.assertIs(same_seats(seats, other), other in rows)
        self.gives(least_seats, (tuple(range(31, -1, -1)),), tuple(range(32)))
        self.gives(least_seats, ((3, 2, 0, 1),), (0, 1, 2, 3))

    def test_pairings(self):
        for n in (1, 2, 4):
            rows = {least_seats(seats) for seats in itertools.permutations(range(n))}
            self.gives(pairings, (n,), len(rows))
            for row in rows:
                self.assertEqual(least_seats(row), row)
        self.gives(pairings, (8,), 315)
        for n in POWERS:
            self.gives(pairings, (n,), math.factorial(n) // 2 ** (n - 1))

    def test_errors(self):
        for n in (0, -1, 3, 33, 64, HUGE):
            self.refused(BadSize, n, pairings, n)
        for many in (0, 3, 5, 33, 64):
            far = (HUGE,) * many
            self.refused(BadSize, many, least_seats, far)
            self.refused(BadSize, many, same_seats, far, (HUGE,))
            self.refused(BadSize, many, same_seats, (0, 1, 2, 3), far)
        for index, seats in ((0, (4, 0, 0, 1)), (1, (3, -1, 3, 9)), (2, (0, 1, 0, HUGE)), (3, (1, 2, 3, 1))):
            self.refused(BadSeat, index, least_seats, seats)
            self.refused(BadSeat, index, same_seats, seats, (0, 0, 0))
            self.refused(BadSeat, index, same_seats, (0, 1, 2, 3), seats)
        for many in (1, 2, 8):
            self.refused(Unlike, many, same_seats, (0, 1, 2, 3), (HUGE,) * many)
        self.refused(Unlike, 4, same_seats, (0,), (0, 1, 2, 3))
        self.is_yes(same_seats((0,), (0,)))
