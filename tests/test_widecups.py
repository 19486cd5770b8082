import itertools
import random

from boutstairs.cups import is_cup
from boutstairs.deeds import offers
from boutstairs.done import done
from boutstairs.errors import (
    BadCount, BadDeed, BadGame, BadRounds, BadRow, BadWidth, NotSame, Refused, TooMany, Unlike)
from boutstairs.fieldmakes import margined, plain, ranked
from boutstairs.fields import made_field
from boutstairs.rule import fewest
from boutstairs.widecups import wide_games, wide_is, wide_made, wide_same
from boutstairs.widedeeds import wide_done, wide_offers, wide_run, wide_walked, wrong
from boutstairs.ways import same
from tests.helpers import ODD, S, cups_of, with_odd_parts
from tests.listings import all_exits, may, some_field
from tests.test_deeds import NO_DEEDS
from tests.widelistings import (
    BAD_WIDE, WideCase, one_exchange, shape, some_classes, some_wide_cup, stairs, wide_cups_of)

HUGE = 10 ** 300
# Seven losers a game: a field of 32 sides in two rounds of two games.
SEVEN = tuple((1 + x // 14, 28 + x // 7 % 2) for x in range(28)) + (S,) * 4


def fault(field, many, pairs):
    """The error and its `what` for these pairs, read off the document point by point; None if there is none."""
    n = field.n
    if len(pairs) != n:
        return Unlike, len(pairs)
    for x, (r, y) in enumerate(pairs):
        if (r, y) != S and not (r >= 1 and y in range(n) and y != x):
            return BadGame, (x, 0)
    lost = [r for r, _ in pairs]
    for r in range(1, n + 1):
        if r < max(lost) and r not in lost:
            return BadRounds, r
    for x, (r, y) in enumerate(pairs):
        if r and lost[y] != 0 and lost[y] <= r:
            return BadGame, (x, 1)
        if r and field.strengths[y] < field.guards[x]:
            return BadGame, (x, 3)
    for y in range(n):
        for r in range(1, n):
            if pairs.count((r, y)) not in (0, many):
                return BadCount, y
    return None


class Made(WideCase):
    def agree(self, field, many, pairs):
        told = fault(field, many, pairs)
        if told is None:
            self.gives(wide_made, (field, many, pairs), pairs)
            self.gives(wide_is, (field, many, pairs), True)
        else:
            self.refused(told[0], told[1], wide_made, field, many, pairs)
            self.gives(wide_is, (field, many, pairs), False)

    def test_all_pairs_of_few_sides(self):
        for field in (plain(3), ranked((0, 0, 0)), margined((0, 1, 2), 1), made_field((0, 2, 1), (1, 1, 9)), plain(1)):
            n = field.n
            each = [S] + [(r, y) for r in range(1, n + 1) for y in range(n)]
            for many in (1, 2, 3):
                found = []
                for pairs in itertools.product(each, repeat=n):
                    self.agree(field, many, pairs)
                    if wide_is(field, many, pairs):
                        found.append(pairs)
                self.assertEqual(sorted(found), sorted(wide_cups_of(field, many)))
            each = [(r, y) for r in range(-1, 3) for y in range(-1, n + 1)][::2]
            for pairs in itertools.product(each, repeat=n):
                self.agree(field, 2, pairs)

    def test_many_pairs_of_more_sides(self):
        draw = random.Random(13)
        for many in (1, 2, 3, 4):
            for field in (plain(6), ranked((0,) * 6), margined((0, 1, 2, 3, 4, 5), 2)):
                for _ in range(700):
                    pairs = list(some_wide_cup(field, many, draw))
                    for _ in range(draw.choice((0, 1, 1, 2, 3))):
                        pairs[draw.randrange(6)] = (draw.choice((0, 1, 1, 2, 3, 6, HUGE)), draw.randrange(-1, 7))
                    if draw.random() < 0.02:
                        pairs.append(S)
                    self.agree(field, many, tuple(pairs))

    def test_one_loser_a_game_makes_cups(self):
        for field in (plain(4), ranked((0,) * 4), margined((0, 1, 2, 3), 1)):
            cups = cups_of(field)
            self.assertEqual(sorted(wide_cups_of(field, 1)), sorted(cups))
            for cup in cups:
                self.is_yes(is_cup(field, cup))
                self.gives(wide_made, (field, 1, cup), cup)

    def test_edges(self):
        for many in range(1, 8):
            self.gives(wide_made, (plain(1), many, (S,)), (S,))
            self.gives(wide_made, (plain(32), many, (S,) * 32), (S,) * 32)
            self.gives(wide_games, (plain(1), many, (S,)), ())
            cup = ((1, many),) * many + (S,)
            self.gives(wide_made, (plain(many + 1), many, cup), cup)
            self.gives(wide_games, (plain(many + 1), many, cup), ((1, many, tuple(range(many))),))
            for other in range(1, 8):
                if other != many:
                    self.refused(BadCount, many, wide_made, plain(many + 1), other, cup)
        self.gives(wide_made, (plain(32), 7, SEVEN), SEVEN)
        self.gives(wide_games, (plain(32), 7, SEVEN), tuple(
            (1 + k // 2, 28 + k % 2, tuple(range(7 * k, 7 * k + 7))) for k in range(4)))
        # The least side that beats too few or too many in some round.
        self.refused(BadCount, 3, wide_made, plain(6), 2, ((1, 4), (1, 3), (1, 4), S, S, S))
        self.refused(BadCount, 3, wide_made, plain(6), 2, ((1, 5), (2, 3), (1, 4), S, S, S))
        self.refused(BadRounds, 4, wide_made, plain(4), 1, ((1, 1), (2, 0), (3, 0), (HUGE, 1)))

    def test_errors_in_their_order(self):
        self.asks_wide(wide_made)
        self.asks_wide(wide_games)
        self.asks_wide_pair(wide_same)
        for what in (0, 8, -1, HUGE):
            self.refused(BadWidth, what, wide_is, plain(4), what, None)
        for _, _, pairs in BAD_WIDE:
            self.is_no(wide_is(plain(4), 2, pairs))

    def test_judge_of_odd_things(self):
        field = ranked((0, 0, 0))
        for good in (((1, 2), (1, 2), S), (S, S, S)):
            self.is_yes(wide_is(field, 2, good))
            for odd in with_odd_parts(good):
                self.is_no(wide_is(field, 2, odd))
        for odd in ODD + ((S, S, S, S), ((0, -1, 0), S, S), "abc", ("ab", S, S), ((),) * 10000):
            self.is_no(wide_is(field, 2, odd))


class Same(WideCase):
    def test_small_cups(self):
        for field, many in ((ranked((0,) * 4), 1), (ranked((0,) * 5), 2), (margined((0, 1, 2, 3, 4), 2), 2), (plain(5), 3)):
            cups = wide_cups_of(field, many)
            for one in cups[::7]:
                for two in cups[::3] + [one]:
                    self.gives(wide_same, (field, many, one, two), shape(one) == shape(two))
                    if many == 1:
                        self.assertIs(same(field, one, two), shape(one) == shape(two))

    def test_games(self):
        for field, many in ((ranked((0,) * 5), 2), (plain(6), 2), (plain(4), 1), (plain(6), 5)):
            for cup in wide_cups_of(field, many):
                games = sorted({pair for pair in cup if pair != S})
                expected = [(r, y, tuple(x for x, pair in enumerate(cup) if pair == (r, y))) for r, y in games]
                self.gives(wide_games, (field, many, cup), tuple(expected))


def lets(field, cup, x, y):
    """Whether an exchange is let, read off the document."""
    (r, u), (s, v) = cup[x], cup[y]
    return r == s > 0 and u != v and may(field, v, x) and may(field, u, y)


class Deeds(WideCase):
    def test_all_deeds_of_small_cups(self):
        for field, many in ((ranked((0,) * 5), 2), (plain(6), 2), (margined((0, 1, 2, 3), 1), 1), (plain(4), 3)):
            for cup in wide_cups_of(field, many)[::3]:
                self.deeds(field, many, cup)

    def deeds(self, field, many, cup):
        let = []
        for x, y in itertools.combinations(range(field.n), 2):
            deed = ("exchange", x, y)
            if lets(field, cup, x, y):
                let.append(deed)
                pairs = list(cup)
                pairs[x], pairs[y] = cup[y], cup[x]
                self.gives(wide_done, (field, many, cup, deed), tuple(pairs))
                self.gives(wide_done, (field, many, tuple(pairs), deed), cup)
                self.is_yes(wide_same(field, many, cup, tuple(pairs)))
            else:
                self.refused(BadDeed, 2, wide_done, field, many, cup, deed)
        self.gives(wide_offers, (field, many, cup), tuple(let))
        if many == 1:
            self.exactly(offers(field, cup), tuple(let))
            for deed in let:
                self.exactly(done(field, cup, deed), wide_done(field, many, cup, deed))

    def test_great_cups(self):
        field = ranked((0,) * 32)
        found = self.soon(wide_offers, field, 7, SEVEN)
        self.exactly(found, tuple(("exchange", x, y) for x in range(28) for y in range(x + 1, 28)
                                  if lets(field, SEVEN, x, y)))
        self.assertEqual(len(found), 98)

    def test_errors_in_their_order(self):
        self.asks_wide(wide_done, ())
        self.asks_wide(wide_offers)
        field, cup = ranked((0,) * 6), ((1, 4), (1, 4), (1, 5), (1, 5), S, S)
        self.exactly(wide_done(field, 2, cup, ("exchange", 0, 2)), ((1, 5), (1, 4), (1, 4), (1, 5), S, S))
        for deed in NO_DEEDS + (("shift", 0, 5), ("shift", 0, 9), ("exchange", 2, 0), ("exchange", 9, 9), ("swap", 0, 2)):
            self.refused(BadDeed, 0, wide_done, field, 2, cup, deed)
        for deed in (("exchange", 0, 6), ("exchange", -1, 0), ("exchange", 6, HUGE)):
            self.refused(BadDeed, 1, wide_done, field, 2, cup, deed)
        for deed in (("exchange", 0, 1), ("exchange", 0, 4), ("exchange", 4, 5), ("exchange", 2, 3)):
            self.refused(BadDeed, 2, wide_done, field, 2, cup, deed)
        # Neither may lose to the beater of the other one.
        field = made_field((0, 0, 0, 0, 1, 2), (2, 0, 0, 0, 0, 0))
        cup = ((1, 5), (1, 5), (1, 4), (1, 4), S, S)
        self.refused(BadDeed, 2, wide_done, field, 2, cup, ("exchange", 0, 2))
        self.exactly(wide_offers(field, 2, cup), (("exchange", 1, 2), ("exchange", 1, 3)))


class Runs(WideCase):
    def test_runs_between_all_cups_of_classes(self):
        draw = random.Random(29)
        for many in (1, 2, 3):
            fields = [some_field(draw.randrange(1, 10), draw) for _ in range(60)]
            for field, cup, members in some_classes(draw, fields, many, 90):
                for other in members[::5] + [cup]:
                    self.run_from(field, many, cup, other)
                    self.run_from(field, many, other, cup)

    def run_from(self, field, many, one, two):
        run = wide_run(field, many, one, two)
        unlike = len([x for x in range(field.n) if one[x] != two[x]])
        self.gives(wrong, (field, many, one, two), unlike)
        self.exactly(wide_walked(field, many, one, run), two)
        self.assertTrue(len(run) < unlike or one == two and run == ())
        if many == 1:
            self.assertEqual(len(run), fewest(field, one, two))
        # Deed by deed as the document takes them.
        now = one
        for deed in run:
            self.exactly(deed, self.next_deed(field, now, two))
            before, now = now, wide_done(field, many, now, deed)
            self.assertTrue(one_exchange(before, now))
        self.assertIsNone(self.next_deed(field, now, two))

    def next_deed(self, field, now, two):
        for r in range(1, max(all_exits(now)) + 1):
            row = stairs(field, now, r)
            for x in row:
                if now[x] != two[x]:
                    y = min(z for z in row if now[z] == two[x] and two[z] != two[x])
                    return ("exchange", min(x, y), max(x, y))
        return None

    def test_great_cups(self):
        field = ranked((0,) * 32)
        turned = tuple((r, 57 - y) if r else S for r, y in SEVEN)
        self.run_from(field, 7, SEVEN, turned)
        self.assertEqual(wrong(field, 7, SEVEN, turned), 28)
        self.assertEqual(len(self.soon(wide_run, field, 7, SEVEN, turned)), 14)
        one = tuple((1, x + 16) for x in range(16)) + (S,) * 16
        self.run_from(field, 1, one, one[15::-1] + (S,) * 16)
        self.run_from(plain(1), 7, (S,), (S,))

    def test_thousand_deeds(self):
        field, deed = ranked((0,) * 32), ("exchange", 0, 13)
        self.exactly(self.soon(wide_walked, field, 7, SEVEN, (deed,) * 1000), SEVEN)
        self.refused(TooMany, 1001, wide_walked, field, 7, SEVEN, (deed,) * 1001)
        self.refused(TooMany, 5000, wide_walked, field, 7, SEVEN, ((),) * 5000)
        self.refused(BadRow, 999, wide_walked, field, 7, SEVEN, (deed,) * 999 + (("exchange", 1, 2),))
        self.exactly(wide_walked(field, 7, SEVEN, ()), SEVEN)

    def test_errors_in_their_order(self):
        self.asks_wide(wide_walked, ((),) * 1001)
        self.asks_wide_pair(wide_run)
        self.asks_wide_pair(wrong)
        field, cup = ranked((0,) * 6), ((1, 4), (1, 4), (1, 5), (1, 5), S, S)
        good = ("exchange", 0, 2)
        for deed in NO_DEEDS + (("shift", 0, 5), ("exchange", 0, 6), ("exchange", 0, 1), ("exchange", 4, 5)):
            self.refused(BadRow, 0, wide_walked, field, 2, cup, (deed, deed))
            self.refused(BadRow, 2, wide_walked, field, 2, cup, (good, good, deed, deed))
        # 0 and 3 lose to one side behind the first deed.
        self.refused(BadRow, 1, wide_walked, field, 2, cup, (good, ("exchange", 0, 3)))
        for other in ((S,) * 6, ((1, 3), (1, 3), (1, 5), S, (1, 5), S), ((1, 3), (1, 3), S, S, S, S),
                      ((2, 4), (2, 4), (1, 5), (1, 5), S, S), ((1, 5), (1, 5), (2, 4), (2, 4), S, S)):
            for call in (wide_run, wrong):
                self.refused(NotSame, 0, call, field, 2, cup, other)
                self.refused(NotSame, 0, call, field, 2, other, cup)

    def test_errors_stand_under_refused(self):
        self.assertTrue(issubclass(BadWidth, Refused))
