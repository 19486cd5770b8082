import itertools
import random

from boutstairs.cups import is_cup, made_cup
from boutstairs.errors import BadGame, BadRounds, Refused, Unlike
from boutstairs.fieldmakes import margined, plain, ranked
from boutstairs.fields import made_field
from tests.helpers import BAD_CUPS, ODD, S, Case, cups_of, with_odd_parts

HUGE = 10 ** 300
C = ((1, 4), (1, 5), (1, 6), (1, 7), (2, 6), (2, 7), (3, 7), S)
FIELDS = (
    plain(3), ranked((0, 0, 0)), margined((0, 1, 2), 1), made_field((0, 2, 1), (1, 1, 9)), plain(1), plain(2),
    ranked((5, 5)), margined((0, 1), -5))


def fault(field, pairs):
    """The error and its `what` for these pairs, read off the document point by point; None if there is none."""
    n = field.n
    if len(pairs) != n:
        return Unlike, len(pairs)
    for x in range(n):
        r, y = pairs[x]
        if (r, y) != (0, -1) and not (r >= 1 and y in range(n) and y != x):
            return BadGame, (x, 0)
    lost = [r for r, _ in pairs]
    for r in range(1, n + 1):
        if r < max(lost) and r not in lost:
            return BadRounds, r
    for x in range(n):
        r, y = pairs[x]
        if (r, y) != (0, -1):
            if lost[y] != 0 and lost[y] <= r:
                return BadGame, (x, 1)
            if (r, y) in pairs[:x]:
                return BadGame, (x, 2)
            if field.strengths[y] < field.guards[x]:
                return BadGame, (x, 3)
    return None


class Made(Case):
    def agree(self, field, pairs):
        told = fault(field, pairs)
        if told is None:
            self.gives(made_cup, (field, pairs), pairs)
            self.is_yes(is_cup(field, pairs))
        else:
            self.refused(told[0], told[1], made_cup, field, pairs)
            self.is_no(is_cup(field, pairs))

    def test_all_small_pairs(self):
        for field in FIELDS:
            n = field.n
            each = [(r, y) for r in range(-1, n + 1) for y in range(-1, n + 1)]
            found = []
            for pairs in itertools.product(each, repeat=n) if n < 3 else itertools.product(each[3::2], repeat=n):
                self.agree(field, pairs)
            each = [S] + [(r, y) for r in range(1, n + 1) for y in range(n)]
            for pairs in itertools.product(each, repeat=n):
                self.agree(field, pairs)
                if is_cup(field, pairs):
                    found.append(pairs)
            self.assertEqual(sorted(found), sorted(cups_of(field)))

    def test_many_pairs_of_five_sides(self):
        draw = random.Random(11)
        for field in (plain(5), ranked((0,) * 5), margined((0, 1, 2, 3, 4), 2), made_field((3, 1, 2, 0, 4), (0,) * 5)):
            cups = cups_of(field)
            for _ in range(3000):
                pairs = list(draw.choice(cups))
                for _ in range(draw.randrange(4)):
                    pairs[draw.randrange(5)] = (draw.choice((0, 1, 1, 2, 2, 3, 4, 5, HUGE)), draw.randrange(-1, 6))
                if draw.random() < 0.02:
                    pairs.append(S)
                self.agree(field, tuple(pairs))

    def test_edges(self):
        self.gives(made_cup, (plain(1), (S,)), (S,))
        for n in (2, 8, 32):
            ladder = tuple((x + 1, n - 1) for x in range(n - 1)) + (S,)
            for pairs in ((S,) * n, ladder, tuple((x + 1, x + 1) for x in range(n - 1)) + (S,)):
                self.gives(made_cup, (plain(n), pairs), pairs)
                self.is_yes(is_cup(plain(n), pairs))
        self.gives(made_cup, (plain(8), C), C)
        halves = tuple((1, x + 16) for x in range(16)) + (S,) * 16
        self.gives(made_cup, (plain(32), halves), halves)

    def test_faults_in_their_order(self):
        for error, what, pairs in BAD_CUPS:
            self.refused(error, what, made_cup, plain(4), pairs)
            self.is_no(is_cup(plain(4), pairs))
        field = plain(4)
        for pair in ((0, 0), (0, 2), (-1, -1), (-1, 2), (1, -1), (1, 4), (HUGE, HUGE), (1, 1), (1, -HUGE), (0, -2)):
            self.refused(BadGame, (1, 0), made_cup, field, (S, pair, (3, 3), S))
        # The form of all pairs, then the rounds, then the games.
        self.refused(BadGame, (3, 0), made_cup, field, ((3, 1), (3, 0), (3, 1), (3, 3)))
        self.refused(BadRounds, 1, made_cup, field, ((3, 1), (3, 0), (3, 1), S))
        self.refused(BadRounds, 2, made_cup, field, ((1, 1), (1, 0), (3, 1), S))
        self.refused(BadRounds, 1, made_cup, field, ((HUGE, 1), S, S, S))
        self.refused(BadRounds, 4, made_cup, field, ((1, 1), (2, 0), (3, 0), (HUGE, 1)))
        self.refused(BadRounds, 3, made_cup, field, ((1, 1), (2, 0), (5, 0), (4, 1)))
        # Whoever is least comes first, whatever its fault is.
        self.refused(BadGame, (0, 3), made_cup, ranked((3, 2, 1, 0)), ((1, 3), (1, 2), (1, 3), S))
        self.refused(BadGame, (0, 1), made_cup, ranked((3, 2, 1, 0)), ((1, 1), (1, 2), S, S))
        self.refused(BadGame, (1, 1), made_cup, field, ((1, 3), (1, 2), (1, 0), S))
        self.refused(BadGame, (2, 2), made_cup, ranked((0, 0, 5, 0)), ((1, 3), S, (1, 3), S))
        self.refused(BadGame, (2, 3), made_cup, ranked((0, 0, 5, 0)), ((1, 3), S, (1, 1), S))
        # All sides lose: the last one to do so has a beater that is out.
        self.refused(BadGame, (1, 1), made_cup, plain(2), ((1, 1), (2, 0)))

    def test_judge_of_odd_things(self):
        field = ranked((0, 0, 0))
        for good in (((1, 1), (2, 2), S), (S, S, S)):
            self.is_yes(is_cup(field, good))
            for odd in with_odd_parts(good):
                self.is_no(is_cup(field, odd))
        for odd in ODD + ((S, S, S, S), ((0, -1, 0), S, S), ((0,), S, S), "abc", ("ab", S, S), (("0", "-1"), S, S)):
            self.is_no(is_cup(field, odd))
        self.is_no(is_cup(plain(1), ("ab",)))

    def test_errors_stand_under_refused(self):
        for error in (Unlike, BadGame, BadRounds):
            self.assertTrue(issubclass(error, Refused))
