import itertools
import random

from boutstairs.cups import is_cup, made_cup
from boutstairs.errors import (
    BadDeed, BadGuard, BadRound, BadSide, BadSize, BadStrength, IsWinner, NoGame, NoRest)
from boutstairs.fieldmakes import margined, plain, ranked
from boutstairs.fields import made_field
from boutstairs.flips import flipped, flips
from boutstairs.records import is_records, records
from boutstairs.strikes import entered, strike
from tests.helpers import S, Case, cups_of
from tests.listings import all_exits, may, some_cup, some_field

HUGE = 10 ** 300
MOST = 10 ** 9
C = ((1, 4), (1, 5), (1, 6), (1, 7), (2, 6), (2, 7), (3, 7), S)
FIELDS = (plain(4), ranked((0, 0, 0, 0)), margined((0, 1, 2, 3), 1), made_field((3, 1, 2, 0), (1, 1, 2, 0)))


def numbers(field):
    return field.n, field.strengths, field.guards


def without(numbers_of_sides, x):
    return numbers_of_sides[:x] + numbers_of_sides[x + 1:]


class Strikes(Case):
    def test_strikes_of_all_cups(self):
        for field in FIELDS + (plain(2), ranked((1, 1, 1))):
            for cup in cups_of(field):
                for x in range(field.n):
                    self.struck(field, cup, x)

    def struck(self, field, cup, x):
        if any(y == x for _, y in cup):
            self.refused(IsWinner, x, strike, field, cup, x)
            return
        found = strike(field, cup, x)
        self.assertIs(type(found), tuple)
        left, pairs = found
        self.exactly(numbers(left), (field.n - 1, without(field.strengths, x), without(field.guards, x)))
        alone = cup[x][0] > 0 and all_exits(cup).count(cup[x][0]) == 1
        expected = []
        for r, y in without(cup, x):
            lower = 1 if alone and r > cup[x][0] else 0
            expected.append(S if r == 0 else (r - lower, y if y < x else y - 1))
        self.exactly(pairs, tuple(expected))
        self.is_yes(is_cup(left, pairs))
        self.is_yes(is_records(records(left, pairs)))

    def test_strikes_of_the_cup_of_the_document(self):
        field = plain(8)
        left, pairs = strike(field, C, 0)
        self.exactly(numbers(left), (7, (1, 2, 3, 4, 5, 6, 7), (1, 2, 3, 4, 5, 6, 7)))
        self.exactly(pairs, ((1, 4), (1, 5), (1, 6), (2, 5), (2, 6), (3, 6), S))
        for x in range(4, 8):
            self.refused(IsWinner, x, strike, field, C, x)
        # The only loser of its round takes the round along.
        self.exactly(strike(plain(4), ((2, 3), (1, 3), S, S), 1)[1], ((1, 2), S, S))
        self.exactly(strike(plain(4), ((2, 3), (1, 3), S, S), 0)[1], ((1, 2), S, S))
        self.exactly(strike(plain(4), ((2, 3), (1, 3), S, S), 2)[1], ((2, 2), (1, 2), S))

    def test_errors_in_their_order(self):
        self.asks_cup(strike, 9)
        for x in (-1, 8, HUGE):
            self.refused(BadSide, x, strike, plain(8), C, x)
        self.refused(BadSide, 1, strike, plain(1), (S,), 1)
        self.refused(BadSize, 1, strike, plain(1), (S,), 0)

    def test_greatest(self):
        ladder = tuple((x + 1, 31) for x in range(31)) + (S,)
        left, pairs = strike(plain(32), ladder, 5)
        self.exactly(pairs, tuple((x + 1, 30) for x in range(30)) + (S,))
        self.exactly(numbers(left), (31, without(tuple(range(32)), 5), without(tuple(range(32)), 5)))


class Entering(Case):
    def test_all_cups_of_few_sides(self):
        for field in (plain(3), ranked((0, 0, 0)), margined((0, 1, 2), 1), plain(1), plain(2)):
            for cup in cups_of(field):
                last = max(all_exits(cup))
                for r, y, guard in itertools.product(range(1, last + 2), range(field.n), (-1, 1, 5)):
                    self.enter(field, cup, 7, guard, r, y)

    def enter(self, field, cup, strength, guard, r, y):
        through = cup[y][0] == 0 or cup[y][0] > r
        if not through or (r, y) in cup:
            self.refused(NoRest, (r, y), entered, field, cup, strength, guard, r, y)
        elif field.strengths[y] < guard:
            self.refused(NoGame, (field.n, y), entered, field, cup, strength, guard, r, y)
        else:
            found = entered(field, cup, strength, guard, r, y)
            self.assertIs(type(found), tuple)
            more, pairs = found
            self.exactly(numbers(more), (field.n + 1, field.strengths + (strength,), field.guards + (guard,)))
            self.exactly(made_cup(more, pairs), cup + ((r, y),))
            back, old = strike(more, pairs, field.n)
            self.exactly((numbers(back), old), (numbers(field), cup))

    def test_by_chance(self):
        draw = random.Random(31)
        for _ in range(150):
            field = some_field(draw.randrange(1, 12), draw)
            cup = some_cup(field, draw)
            r = draw.randrange(1, max(all_exits(cup)) + 2)
            self.enter(field, cup, draw.randrange(-MOST, MOST + 1), draw.randrange(-2, 4), r, draw.randrange(field.n))

    def test_errors_in_their_order(self):
        self.asks_cup(entered, HUGE, HUGE, 0, 9)
        for bad in (MOST + 1, -MOST - 1, HUGE, -HUGE):
            self.refused(BadStrength, bad, entered, plain(8), C, bad, bad, 0, 9)
            self.refused(BadGuard, bad, entered, plain(8), C, MOST, bad, 0, 9)
            self.refused(BadGuard, bad, entered, plain(8), C, -MOST, bad, 0, 9)
        for r in (0, 5, -1, HUGE):
            self.refused(BadRound, r, entered, plain(8), C, -MOST, MOST, r, 9)
        self.refused(BadRound, 2, entered, plain(1), (S,), 0, 0, 2, 0)
        for y in (8, -1, HUGE):
            self.refused(BadSide, y, entered, plain(8), C, 0, MOST, 1, y)
        self.refused(NoRest, (1, 7), entered, plain(8), C, 0, MOST, 1, 7)
        self.refused(NoRest, (2, 4), entered, plain(8), C, 0, MOST, 2, 4)
        self.refused(NoRest, (4, 6), entered, plain(8), C, 0, MOST, 4, 6)
        self.refused(NoGame, (8, 7), entered, plain(8), C, 0, 8, 4, 7)
        self.exactly(entered(plain(8), C, -MOST, 7, 4, 7)[1], C + ((4, 7),))
        self.exactly(entered(plain(8), C, MOST, -MOST, 4, 7)[0].guards[8], -MOST)
        # A field of 32 takes nobody in, whatever else is asked for.
        full = (S,) * 32
        self.refused(BadSize, 33, entered, plain(32), ((1, 1),) + full[1:], 0, MOST, 1, 1)
        self.refused(BadSide, 32, entered, plain(32), full, 0, 0, 1, 32)
        self.exactly(entered(plain(31), full[1:], 0, 30, 1, 30)[1], full[1:] + ((1, 30),))


def turned_round(cup, x):
    """The pairs with the game that x loses turned round, read off the document."""
    r, y = cup[x]
    found = list(cup)
    for z, (s, winner) in enumerate(cup):
        if winner == y and s > r:
            found[z] = (s, x)
    found[x], found[y] = cup[y], (r, x)
    return tuple(found)


def lets_flip(field, cup, x):
    """Whether the flip is let, by what the document says of who may beat whom."""
    r, y = cup[x]
    taken_over = [z for z, (s, winner) in enumerate(cup) if winner == y and s > r]
    above = cup[y][1]
    return may(field, x, y) and all(may(field, x, z) for z in taken_over) and (above < 0 or may(field, above, x))


class Flips(Case):
    def test_all_cups_of_few_sides(self):
        for field in FIELDS + (plain(2), ranked((5, 5)), ranked((1, 1, 1)), made_field((0, 1, 5), (0, 0, 1))):
            for cup in cups_of(field):
                let = [x for x in range(field.n) if cup[x][0] and lets_flip(field, cup, x)]
                self.gives(flips, (field, cup), tuple(let))
                for x in range(field.n):
                    self.flip(field, cup, x, x in let)

    def flip(self, field, cup, x, let):
        if cup[x] == S:
            self.refused(NoGame, (x, -1), flipped, field, cup, x)
        elif not let:
            self.refused(BadDeed, 2, flipped, field, cup, x)
        else:
            y = cup[x][1]
            found = flipped(field, cup, x)
            self.exactly(found, turned_round(cup, x))
            self.is_yes(is_cup(field, found))
            self.assertEqual((found[x][0], found[y][0]), (cup[y][0], cup[x][0]))
            self.gives(flipped, (field, found, y), cup)

    def test_cups_by_chance(self):
        draw = random.Random(41)
        seen = 0
        for _ in range(200):
            field = margined(tuple(draw.randrange(5) for _ in range(draw.randrange(1, 14))), draw.randrange(6))
            cup = some_cup(field, draw)
            let = flips(field, cup)
            self.exactly(let, tuple(x for x in range(field.n) if cup[x][0] and lets_flip(field, cup, x)))
            for x in let:
                self.flip(field, cup, x, True)
            seen += len(let)
        self.assertGreater(seen, 200)

    def test_examples(self):
        field = ranked((5, 5))
        self.gives(flipped, (field, ((1, 1), S), 0), (S, (1, 0)))
        self.gives(flipped, (field, (S, (1, 0)), 1), ((1, 1), S))
        self.gives(flips, (field, (S, (1, 0))), (1,))
        self.gives(flips, (field, (S, S)), ())
        self.gives(flips, (plain(8), C), ())
        self.gives(flips, (plain(1), (S,)), ())
        ladder = tuple((x + 1, 31) for x in range(31)) + (S,)
        self.gives(flips, (ranked((0,) * 32), ladder), tuple(range(31)))
        self.gives(flipped, (ranked((0,) * 32), ladder, 0), (S,) + tuple((x + 1, 0) for x in range(1, 31)) + ((1, 0),))

    def test_errors_in_their_order(self):
        self.asks_cup(flipped, 9)
        self.asks_cup(flips)
        for x in (-1, 8, HUGE):
            self.refused(BadSide, x, flipped, plain(8), C, x)
        self.refused(NoGame, (7, -1), flipped, plain(8), C, 7)
        for x in range(7):
            self.refused(BadDeed, 2, flipped, plain(8), C, x)
