import itertools
import math
import random

from boutstairs.errors import BadCount, BadPair, BadRound, BadSide, BadSize, BadWidth, NotSame, TooMany
from boutstairs.abovechances import above_chance
from boutstairs.fieldmakes import margined, plain, ranked
from boutstairs.fields import made_field
from boutstairs.gamechances import game_chance
from boutstairs.planmakers import full
from boutstairs.plans import cups_total
from boutstairs.poolranks import nth, rank
from boutstairs.pools import choices, pool_of, size
from boutstairs.rule import fewest
from boutstairs.shares import mean, share
from boutstairs.widechances import wide_above, wide_chance, wide_together
from boutstairs.widecounts import wide_choices, wide_fewest, wide_nth, wide_rank, wide_size
from boutstairs.widecups import wide_is
from boutstairs.widedeeds import wide_run
from boutstairs.widewords import wide_total, wide_words
from boutstairs.words import words_count
from tests.helpers import S, Case
from tests.listings import all_exits, may, some_field
from tests.test_widecups import SEVEN
from tests.widelistings import (
    WideCase, distances, shape, some_classes, some_wide_cup, stairs, wide_cups_of, wide_path)

HUGE = 10 ** 300


def stepped(many, rooms):
    """A field and a wide cup of one round: the loser at each place of the stair row has so many possible beaters."""
    winners = max(rooms)
    losing = len(rooms)
    strengths = (0,) * losing + tuple(range(1, winners + 1))
    guards = tuple(winners + 1 - room for room in rooms) + (0,) * winners
    pairs, seats = [], [many] * winners
    for room in rooms:
        j = min(j for j in range(winners - room, winners) if seats[j])
        seats[j] -= 1
        pairs.append((1, losing + j))
    return made_field(strengths, guards), tuple(pairs) + (S,) * winners


class Classes(WideCase):
    def classes(self, seed, many, limit=200):
        draw = random.Random(seed)
        fields = [some_field(draw.randrange(1, 13), draw) for _ in range(90)]
        # Low guards let games with many losers come about.
        fields += [margined(tuple(range(n)), draw.randrange(n)) for n in range(2, 13)]
        return some_classes(draw, fields, many, limit)

    def test_counts_and_numbers(self):
        seen = 0
        for many in range(1, 8):
            for field, cup, members in self.classes(many, many):
                self.assertIn(cup, members)
                self.gives(wide_size, (field, many, cup), len(members))
                for k, other in enumerate(members):
                    self.gives(wide_nth, (field, many, cup, k), other)
                    self.gives(wide_rank, (field, many, cup, other), k)
                for k in (-1, len(members), HUGE):
                    self.refused(BadCount, k, wide_nth, field, many, cup, k)
                for r in range(1, max(all_exits(cup)) + 1):
                    winners = {y for s, y in cup if s == r}
                    expected = tuple(
                        (x, many * sum(may(field, y, x) for y in winners) - place)
                        for place, x in enumerate(stairs(field, cup, r)))
                    self.gives(wide_choices, (field, many, cup, r), expected)
                seen += len(members) > 1
        self.assertGreater(seen, 60)

    def test_the_class_has_all_that_are_wide_same(self):
        for field, many in ((ranked((0,) * 5), 2), (plain(6), 2), (margined((0, 1, 2, 3, 4), 1), 2), (plain(5), 1)):
            by_shape = {}
            for cup in wide_cups_of(field, many):
                by_shape.setdefault(shape(cup), []).append(cup)
            for alike in by_shape.values():
                self.gives(wide_size, (field, many, alike[0]), len(alike))
                found = [wide_nth(field, many, alike[-1], k) for k in range(len(alike))]
                self.assertEqual(sorted(found), sorted(alike))

    def test_chances(self):
        for many in range(1, 8):
            for field, cup, members in self.classes(50 + many, many, 80):
                for x, y in itertools.product(range(field.n), repeat=2):
                    lost = sum(other[x][1] == y for other in members)
                    self.gives(wide_chance, (field, many, cup, x, y), share(lost, len(members)))
                    above = sum(y in wide_path(other, x) for other in members)
                    self.gives(wide_above, (field, many, cup, x, y), share(above, len(members)))
                    if x != y:
                        both = sum(other[x] == other[y] != S for other in members)
                        self.gives(wide_together, (field, many, cup, x, y), share(both, len(members)))

    def test_fewest(self):
        for many in range(1, 8):
            for field, cup, members in self.classes(80 + many, many, 60):
                for one in members[::13]:
                    found = distances(members, one)
                    self.assertEqual(len(found), len(members))
                    for two in members[::4]:
                        self.gives(wide_fewest, (field, many, one, two), found[two])
                        self.assertLessEqual(found[two], len(wide_run(field, many, one, two)))

    def test_one_loser_a_game(self):
        draw = random.Random(97)
        for _ in range(60):
            field = some_field(draw.randrange(1, 9), draw)
            cup = some_wide_cup(field, 1, draw)
            pool = pool_of(field, cup)
            self.exactly(wide_size(field, 1, cup), size(pool))
            k = draw.randrange(size(pool))
            other = nth(pool, k)
            self.gives(wide_nth, (field, 1, cup, k), other)
            self.assertEqual(wide_rank(field, 1, cup, other), rank(pool, other))
            for r in range(1, max(all_exits(cup)) + 1):
                self.exactly(wide_choices(field, 1, cup, r), choices(pool, r))
            if size(pool) <= 500:
                self.assertEqual(wide_fewest(field, 1, cup, other), fewest(field, cup, other))
            x, y = draw.randrange(field.n), draw.randrange(field.n)
            self.exactly(wide_chance(field, 1, cup, x, y), game_chance(pool, x, y))
            self.exactly(wide_above(field, 1, cup, x, y), above_chance(pool, x, y))
            if x != y:
                self.exactly(wide_together(field, 1, cup, x, y), (0, 1))


class Edges(WideCase):
    def test_no_rounds(self):
        for n in (1, 32):
            for many in range(1, 8):
                cup = (S,) * n
                self.gives(wide_size, (plain(n), many, cup), 1)
                self.gives(wide_nth, (plain(n), many, cup, 0), cup)
                self.gives(wide_rank, (plain(n), many, cup, cup), 0)
                self.gives(wide_fewest, (plain(n), many, cup, cup), 0)
                self.gives(wide_chance, (plain(n), many, cup, 0, n - 1), (0, 1))
                self.gives(wide_above, (plain(n), many, cup, 0, n - 1), (0, 1))
                self.refused(BadRound, 1, wide_choices, plain(n), many, cup, 1)
        self.gives(wide_together, (plain(2), 1, (S, S), 0, 1), (0, 1))

    def test_seven_losers(self):
        field = ranked((0,) * 32)
        each = math.comb(14, 7)
        self.exactly(self.soon(wide_size, field, 7, SEVEN), each ** 2)
        self.gives(wide_choices, (field, 7, SEVEN, 1), tuple((x, 14 - x) for x in range(14)))
        for k in (0, 1, each - 1, each, each ** 2 // 3, each ** 2 - 1):
            other = self.soon(wide_nth, field, 7, SEVEN, k)
            self.is_yes(wide_is(field, 7, other))
            self.assertEqual(self.soon(wide_rank, field, 7, SEVEN, other), k)
        self.gives(wide_nth, (field, 7, SEVEN, 0), SEVEN)
        self.gives(wide_chance, (field, 7, SEVEN, 0, 28), (1, 2))
        self.gives(wide_together, (field, 7, SEVEN, 0, 13), (6, 13))
        self.gives(wide_together, (field, 7, SEVEN, 0, 14), (0, 1))
        self.gives(wide_above, (field, 7, SEVEN, 27, 29), (1, 2))
        self.refused(TooMany, each ** 2, wide_fewest, field, 7, SEVEN, SEVEN)

    def test_great_classes_come_soon(self):
        for field in (ranked((0,) * 32), margined(tuple(range(32)), 20)):
            for many in range(1, 8):
                draw = random.Random(many)
                cup = (S,) * 32
                while cup == (S,) * 32:
                    cup = some_wide_cup(field, many, draw)
                total = self.soon(wide_size, field, many, cup)
                for k in (0, total // 2, total - 1):
                    self.assertEqual(wide_rank(field, many, cup, self.soon(wide_nth, field, many, cup, k)), k)
                x = [z for z in range(32) if cup[z] != S][0]
                sure = [self.soon(wide_chance, field, many, cup, x, y) for y in range(32)]
                self.assertEqual(mean(tuple(sure)), (1, 32))
                self.soon(wide_above, field, many, cup, x, 31)
                self.soon(wide_together, field, many, cup, x, (x + 1) % 32)

    def test_the_limit_of_the_search(self):
        # No class has just 500 cups with these: the nearest have 486 and 512.
        for many, (field, cup) in ((1, stepped(1, (3, 4, 5, 6, 7, 7, 7))), (2, self.five_rounds())):
            self.assertEqual(wide_size(field, many, cup), 486)
            cup = wide_nth(field, many, cup, 0)
            last = wide_nth(field, many, cup, 485)
            found = self.soon(wide_fewest, field, many, cup, last)
            self.assertTrue(0 < found <= len(wide_run(field, many, cup, last)))
            if many == 1:
                self.assertEqual(found, fewest(field, cup, last))
        field, cup = stepped(1, tuple(range(2, 11)) + (10,))
        self.assertEqual(wide_size(field, 1, cup), 512)
        self.refused(TooMany, 512, wide_fewest, field, 1, cup, cup)
        self.refused(TooMany, 512, wide_fewest, field, 1, cup, wide_nth(field, 1, cup, 511))

    def five_rounds(self):
        """Two losers a game, and two games in each of five rounds: one that has 6 fillings, and four that have 3."""
        guards = (1, 1, 1, 1) + (2, 1, 1, 1) * 4 + (0, 0)
        strengths = (0,) * 20 + (1, 2)
        pairs = tuple((1 + x // 4, 21 - x % 4 // 2) for x in range(20)) + (S, S)
        return made_field(strengths, guards), pairs

    def test_three_games_of_two_losers(self):
        field = ranked((0,) * 9)
        cups = [tuple((1, y) for y in row) + (S,) * 3 for row in sorted(set(itertools.permutations((6, 6, 7, 7, 8, 8))))]
        one = cups[0]
        found = distances(cups, one)
        for two in cups[::4]:
            self.gives(wide_fewest, (field, 2, one, two), found[two])


class Words(Case):
    def test_examples(self):
        self.gives(wide_words, (2, 2), 12)
        self.gives(wide_words, (3, 2), 140)
        self.gives(wide_total, (2, 2), 280)

    def test_one_loser_a_game(self):
        for k in range(6):
            self.assertEqual(self.soon(wide_words, 1, k), words_count(2 ** k, full(2 ** k)))
            self.assertEqual(wide_total(1, k), cups_total(2 ** k, full(2 ** k)))

    def test_listed(self):
        for many, k in ((1, 0), (1, 1), (1, 2), (1, 3), (2, 0), (2, 1), (2, 2), (3, 0), (3, 1), (7, 1)):
            cups = self.restless(many, k)
            self.gives(wide_total, (many, k), len(cups))
            self.gives(wide_words, (many, k), len({shape(cup) for cup in cups}))

    def restless(self, many, k):
        """All wide cups of so many rounds of a plain field in which no side rests."""
        n = (many + 1) ** k
        found = []

        def group(sides):
            if not sides:
                return [{}]
            found_here = []
            for others in itertools.combinations(sides[:-1], many):
                left = tuple(x for x in sides[:-1] if x not in others)
                for games in group(left):
                    found_here.append({**games, **{x: sides[-1] for x in others}})
            return found_here

        def play(pairs, left, r):
            if len(left) == 1:
                found.append(pairs)
                return
            for games in group(left):
                more = tuple((r, games[x]) if x in games else pair for x, pair in enumerate(pairs))
                play(more, tuple(x for x in left if x not in games), r + 1)

        play((S,) * n, tuple(range(n)), 1)
        return found

    def test_all_that_are_let(self):
        for many in range(1, 8):
            for k in range(6):
                n = (many + 1) ** k
                if n > 32:
                    self.refused(BadSize, k, wide_words, many, k)
                    self.refused(BadSize, k, wide_total, many, k)
                else:
                    games = (n - 1) // many
                    self.assertEqual(wide_total(many, k), math.factorial(n) // math.factorial(many + 1) ** games)
                    self.assertLessEqual(self.soon(wide_words, many, k), wide_total(many, k))

    def test_errors_in_their_order(self):
        for call in (wide_words, wide_total):
            for many in (0, 8, -1, HUGE):
                self.refused(BadWidth, many, call, many, -1)
            for k in (-1, 6, HUGE, -HUGE):
                self.refused(BadSize, k, call, 1, k)
                self.refused(BadSize, k, call, 7, k)


class Errors(WideCase):
    FIELD, CUP = ranked((0,) * 6), ((1, 4), (1, 4), (1, 5), (1, 5), S, S)

    def test_wide_cups_first(self):
        self.asks_wide(wide_choices, 0)
        self.asks_wide(wide_size)
        self.asks_wide(wide_nth, -1)
        for call in (wide_chance, wide_above, wide_together):
            self.asks_wide(call, -1, -1)
        for call in (wide_rank, wide_fewest):
            self.asks_wide_pair(call)

    def test_rounds_and_sides(self):
        for r in (0, 2, -1, HUGE):
            self.refused(BadRound, r, wide_choices, self.FIELD, 2, self.CUP, r)
        for call in (wide_chance, wide_above, wide_together):
            for bad in (-1, 6, HUGE):
                self.refused(BadSide, bad, call, self.FIELD, 2, self.CUP, bad, -5)
                self.refused(BadSide, bad, call, self.FIELD, 2, self.CUP, 5, bad)
        for x in (0, 5):
            self.refused(BadPair, x, wide_together, self.FIELD, 2, self.CUP, x, x)
            self.gives(wide_chance, (self.FIELD, 2, self.CUP, x, x), (0, 1))
            self.gives(wide_above, (self.FIELD, 2, self.CUP, x, x), (0, 1))

    def test_not_same(self):
        for other in ((S,) * 6, ((1, 3), (1, 3), (1, 5), S, (1, 5), S), ((1, 3), (1, 3), S, S, S, S),
                      ((2, 4), (2, 4), (1, 5), (1, 5), S, S)):
            for call in (wide_rank, wide_fewest):
                self.refused(NotSame, 0, call, self.FIELD, 2, self.CUP, other)
                self.refused(NotSame, 0, call, self.FIELD, 2, other, self.CUP)
        great = tuple((1, x + 16) for x in range(16)) + (S,) * 16
        self.refused(NotSame, 0, wide_fewest, ranked((0,) * 32), 1, great, (S,) * 32)
