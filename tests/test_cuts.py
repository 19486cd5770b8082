import random

from boutstairs.boughs import bough
from boutstairs.cuplooks import rounds
from boutstairs.cups import is_cup
from boutstairs.cuts import begun, bough_of, followed, rest_of
from boutstairs.deeds import offers
from boutstairs.errors import BadCount, BadGame, BadRound, BadRounds, BadSide, BadSize, Undecided, Unlike
from boutstairs.fieldmakes import kept_field, margined, plain, ranked
from boutstairs.fields import made_field
from boutstairs.joins import beside, final
from boutstairs.rule import fewest
from boutstairs.ways import same
from tests.helpers import BAD_CUPS, S, Case, cups_of
from tests.listings import all_exits, may, some_cup, some_field, through

HUGE = 10 ** 300
C = ((1, 4), (1, 5), (1, 6), (1, 7), (2, 6), (2, 7), (3, 7), S)
FIELDS = (plain(4), ranked((0, 0, 0, 0)), margined((0, 1, 2, 3), 1), made_field((3, 1, 2, 0), (1, 1, 2, 0)))


def numbers(field):
    return field.n, field.strengths, field.guards


class Joined(Case):
    def is_field(self, field, strengths, guards):
        self.exactly(numbers(field), (len(strengths), strengths, guards))

    def cup_and_field(self, found, whole, sides, pairs):
        """The pair is of the field of these sides and of these pairs."""
        self.assertIs(type(found), tuple)
        field, cup = found
        self.is_field(field, tuple(whole.strengths[x] for x in sides), tuple(whole.guards[x] for x in sides))
        self.exactly(cup, pairs)
        self.is_yes(is_cup(field, cup))


class Cuts(Joined):
    def test_the_cup_of_the_document(self):
        field = plain(8)
        self.gives(begun, (field, C, 0), (S,) * 8)
        self.gives(begun, (field, C, 1), C[:4] + (S,) * 4)
        self.gives(begun, (field, C, 3), C)
        self.cup_and_field(rest_of(field, C, 1), field, (4, 5, 6, 7), ((1, 2), (1, 3), (2, 3), S))
        self.cup_and_field(rest_of(field, C, 3), field, (7,), (S,))
        self.cup_and_field(bough_of(field, C, 6), field, (0, 2, 4, 6), ((1, 2), (1, 3), (2, 3), S))
        self.cup_and_field(bough_of(field, C, 5), field, (1, 5), ((1, 1), S))
        self.cup_and_field(bough_of(field, C, 0), field, (0,), (S,))
        self.cup_and_field(bough_of(field, C, 7), field, tuple(range(8)), C)

    def test_rounds_left_out(self):
        cup = ((3, 5), (1, 3), (2, 4), (4, 5), (5, 5), S)
        self.cup_and_field(bough_of(plain(6), cup, 4), plain(6), (2, 4), ((1, 1), S))
        self.cup_and_field(bough_of(plain(6), cup, 5), plain(6), tuple(range(6)), cup)
        cup = ((1, 3), (2, 4), (3, 3), (4, 4), S)
        self.cup_and_field(bough_of(plain(5), cup, 3), plain(5), (0, 2, 3), ((1, 2), (2, 2), S))
        self.cup_and_field(rest_of(plain(5), cup, 2), plain(5), (2, 3, 4), ((1, 1), (2, 2), S))

    def test_all_cups_of_four(self):
        for field in FIELDS:
            for cup in cups_of(field):
                last = max(all_exits(cup))
                for r in range(last + 1):
                    self.cut(field, cup, r)
                for x in range(4):
                    self.bough_alone(field, cup, x)

    def cut(self, field, cup, r):
        first = begun(field, cup, r)
        self.exactly(first, tuple(pair if pair[0] <= r else S for pair in cup))
        self.is_yes(is_cup(field, first))
        self.assertEqual(rounds(field, first), r)
        sides = through(all_exits(cup), r) if r else tuple(range(field.n))
        pairs = tuple((cup[x][0] - r, sides.index(cup[x][1])) if cup[x][0] else S for x in sides)
        found = rest_of(field, cup, r)
        self.cup_and_field(found, field, sides, pairs)
        self.gives(followed, (field, first, found[1]), cup)

    def bough_alone(self, field, cup, x):
        sides = bough(field, cup, x)
        told = sorted({cup[z][0] for z in sides if z != x})
        pairs = tuple(
            S if z == x else (told.index(cup[z][0]) + 1, sides.index(cup[z][1])) for z in sides)
        found = bough_of(field, cup, x)
        self.cup_and_field(found, field, sides, pairs)
        # What is let there is let in the whole cup.
        let = offers(field, cup)
        for _, u, v in offers(*found):
            self.assertIn(("exchange", sides[u], sides[v]), let)

    def test_followed(self):
        field = plain(5)
        first = ((1, 1), S, (1, 4), S, S)
        self.gives(followed, (field, first, ((1, 2), S, S)), ((1, 1), (2, 4), (1, 4), S, S))
        self.gives(followed, (field, first, (S, S, S)), first)
        self.gives(followed, (field, (S,) * 5, ((1, 1), (2, 2), S, S, S)), ((1, 1), (2, 2), S, S, S))
        self.gives(followed, (plain(1), (S,), (S,)), (S,))
        for error, what, pairs in BAD_CUPS:
            self.refused(error, what, followed, plain(4), pairs, ())
            self.refused(error, what, followed, plain(4), (S,) * 4, pairs)
        self.refused(Unlike, 5, followed, field, first, (S,) * 5)
        self.refused(BadGame, (2, 0), followed, field, first, (S, S, (1, 4)))
        self.refused(BadGame, (1, 3), followed, field, first, (S, (1, 0), S))
        self.refused(BadRounds, 1, followed, field, first, ((2, 1), S, S))

    def test_same_and_fewest_fall_apart(self):
        draw = random.Random(23)
        seen = 0
        for _ in range(150):
            field = some_field(draw.randrange(2, 6), draw)
            cups = cups_of(field)
            one = draw.choice(cups)
            alike = [cup for cup in cups if all_exits(cup) == all_exits(one)]
            two = draw.choice(alike)
            loose = draw.choice(((), (1,), (2,), (1, 3), (2, 3, 4)))
            for r in range(max(all_exits(one)) + 1):
                early = begun(field, one, r), begun(field, two, r)
                rest, later = rest_of(field, one, r)
                down = tuple(s - r for s in loose if s > r)
                both = same(field, *early, loose=loose) and same(rest, later, rest_of(field, two, r)[1], loose=down)
                self.assertIs(same(field, one, two, loose=loose), both)
                if both:
                    parts = fewest(field, *early, loose=loose), fewest(
                        rest, later, rest_of(field, two, r)[1], loose=down)
                    self.assertEqual(fewest(field, one, two, loose=loose), sum(parts))
                    seen += 1
        self.assertGreater(seen, 50)

    def test_errors_in_their_order(self):
        for call in (begun, rest_of):
            self.asks_cup(call, -1)
            for r in (-1, 4, HUGE, -HUGE):
                self.refused(BadRound, r, call, plain(8), C, r)
            self.refused(BadRound, 1, call, plain(2), (S, S), 1)
        self.asks_cup(bough_of, 9)
        for x in (-1, 8, HUGE):
            self.refused(BadSide, x, bough_of, plain(8), C, x)

    def test_great_cups(self):
        ladder = tuple((x + 1, 31) for x in range(31)) + (S,)
        self.gives(begun, (plain(32), ladder, 31), ladder)
        self.gives(begun, (plain(32), ladder, 0), (S,) * 32)
        self.cup_and_field(
            rest_of(plain(32), ladder, 30), plain(32), (30, 31), ((1, 1), S))
        self.cup_and_field(bough_of(plain(32), ladder, 31), plain(32), tuple(range(32)), ladder)
        self.cup_and_field(bough_of(plain(1), (S,), 0), plain(1), (0,), (S,))
        self.gives(followed, (plain(32), begun(plain(32), ladder, 9), rest_of(plain(32), ladder, 9)[1]), ladder)


class Joins(Joined):
    def test_beside(self):
        one, two = plain(2), margined((5, 6, 7), 9)
        found = beside(one, ((1, 1), S), two, ((2, 1), S, (1, 0)))
        self.cup_and_field(found, made_field((0, 1, 5, 6, 7), (0, 1, -4, -3, -2)), tuple(range(5)),
                           ((1, 1), S, (2, 3), S, (1, 2)))

    def test_beside_of_small_cups(self):
        for one in (plain(1), ranked((0, 0)), margined((0, 1, 2), 1)):
            for two in (plain(1), plain(3), ranked((4, 4, 4))):
                for first in cups_of(one):
                    for second in cups_of(two):
                        found = beside(one, first, two, second)
                        self.assertIs(type(found), tuple)
                        field, cup = found
                        self.is_field(field, one.strengths + two.strengths, one.guards + two.guards)
                        moved = tuple((r, y + one.n) if r else S for r, y in second)
                        self.exactly(cup, first + moved)
                        self.is_yes(is_cup(field, cup))

    def test_beside_errors(self):
        self.asks_cup(beside, plain(32), ())
        for error, what, pairs in BAD_CUPS:
            self.refused(error, what, beside, plain(32), (S,) * 32, plain(4), pairs)
        self.refused(BadSize, 33, beside, plain(32), (S,) * 32, plain(1), (S,))
        self.refused(BadSize, 64, beside, plain(32), (S,) * 32, plain(32), (S,) * 32)
        field, cup = beside(plain(16), (S,) * 16, plain(16), (S,) * 15 + (S,))
        self.assertEqual((field.n, cup), (32, (S,) * 32))

    def test_final_of_all_cups(self):
        for field in FIELDS + (plain(2), ranked((3, 3)), plain(1), margined((0, 1, 5), 2)):
            for cup in cups_of(field):
                left = [x for x, pair in enumerate(cup) if pair == S]
                if len(left) != 2:
                    self.refused(BadCount, len(left), final, field, cup)
                    continue
                u, v = left
                if may(field, u, v) == may(field, v, u):
                    self.refused(Undecided, (u, v), final, field, cup)
                    continue
                winner, loser = (u, v) if may(field, u, v) else (v, u)
                pairs = list(cup)
                pairs[loser] = (max(all_exits(cup)) + 1, winner)
                self.gives(final, (field, cup), tuple(pairs))
                self.is_yes(is_cup(field, tuple(pairs)))

    def test_final_errors(self):
        self.asks_cup(final)
        self.refused(BadCount, 1, final, plain(1), (S,))
        self.refused(BadCount, 32, final, plain(32), (S,) * 32)
        # Neither may beat the other one.
        self.refused(Undecided, (0, 1), final, made_field((0, 0), (1, 1)), (S, S))

    def test_cups_by_chance(self):
        draw = random.Random(5)
        for _ in range(60):
            one, two = some_field(draw.randrange(1, 9), draw), some_field(draw.randrange(1, 9), draw)
            first, second = some_cup(one, draw), some_cup(two, draw)
            field, cup = beside(one, first, two, second)
            self.is_yes(is_cup(field, cup))
            self.exactly(numbers(kept_field(field, tuple(range(one.n)))), numbers(one))
            for r in range(max(all_exits(cup)) + 1):
                self.gives(followed, (field, begun(field, cup, r), rest_of(field, cup, r)[1]), cup)
