import random

from boutstairs.allcups import cup_at, cup_number, drawn_cup
from boutstairs.cuplooks import plan_of
from boutstairs.cups import is_cup
from boutstairs.errors import BadCount, BadGame, BadPlan, BadSize, NotSame, TooMany, Unlike
from boutstairs.fieldmakes import plain
from boutstairs.planmakers import full, ladder, quick
from boutstairs.plans import cups_total
from boutstairs.poolranks import nth
from boutstairs.pools import pool_of_exits, size
from boutstairs.wordranks import nth_word
from boutstairs.words import exits_of, words_count
from tests.helpers import BAD_CUPS, S, Case
from tests.plancups import plan_cups, plans_of
from tests.test_words import FULL_STATES, MORE_STATES

HUGE = 10 ** 300


def last_number(digits, modulus):
    """The last number of the drawing, by the words of the document."""
    r = 0
    for digit in digits:
        r = (r * 1000003 + digit) % modulus
    return r


class Listed(Case):
    def test_all_plans_of_few_sides(self):
        for n in range(1, 7):
            for plan in plans_of(n):
                if cups_total(n, plan) <= 700:
                    self.told(n, plan)

    def told(self, n, plan):
        # Word by word, and within a word by the numbers of its pool.
        expected = []
        for k in range(words_count(n, plan)):
            pool = pool_of_exits(plain(n), exits_of(nth_word(n, plan, k)))
            expected.extend(nth(pool, i) for i in range(size(pool)))
        self.assertEqual(sorted(expected), sorted(plan_cups(n, plan)))
        for k, cup in enumerate(expected):
            self.gives(cup_at, (n, plan, k), cup)
            self.gives(cup_number, (n, plan, cup), k)
        for k in (-1, len(expected), HUGE, -HUGE):
            self.refused(BadCount, k, cup_at, n, plan, k)
        for digits in ((0,), (1,), (-1,), (5, 9), (3, -7, HUGE), (-HUGE,), (0, 0, 4)):
            self.gives(drawn_cup, (n, plan, digits), expected[last_number(digits, len(expected))])


class Edges(Case):
    def test_examples(self):
        self.gives(cup_at, (4, (2, 1), 0), ((1, 1), (2, 3), (1, 3), S))
        self.gives(cup_at, (4, (2, 1), 1), ((1, 3), (1, 2), (2, 3), S))
        self.gives(cup_at, (4, (2, 1), 2), ((1, 2), (1, 3), (2, 3), S))

    def test_no_rounds(self):
        for n in (1, 32):
            self.gives(cup_at, (n, (), 0), (S,) * n)
            self.gives(cup_number, (n, (), (S,) * n), 0)
            self.gives(drawn_cup, (n, (), (HUGE, -3)), (S,) * n)
            self.refused(BadCount, 1, cup_at, n, (), 1)

    def test_great_plans_come_soon(self):
        draw = random.Random(3)
        for n, plan in ((32, full(32)), (14, ladder(14)), FULL_STATES, (31, quick(31)), (32, (16,)), (32, (1, 1, 1))):
            total = cups_total(n, plan)
            for k in (0, total - 1, total // 2, draw.randrange(total)):
                cup = self.soon(cup_at, n, plan, k)
                self.is_yes(is_cup(plain(n), cup))
                self.exactly(plan_of(plain(n), cup), plan)
                self.assertEqual(self.soon(cup_number, n, plan, cup), k)
            digits = tuple(draw.randrange(-HUGE, HUGE) for _ in range(9))
            self.exactly(self.soon(drawn_cup, n, plan, digits), cup_at(n, plan, last_number(digits, total)))


class Errors(Case):
    def test_plans_and_states_first(self):
        for call, more in ((cup_at, (-1,)), (cup_number, ((),)), (drawn_cup, ((),))):
            for n in (0, 33, -1, HUGE):
                self.refused(BadSize, n, call, n, (0,), *more)
            for index, n, plan in ((0, 4, (0,)), (0, 4, (3,)), (1, 4, (2, 2)), (2, 4, (2, 1, 1)), (0, 1, (1,)),
                                   (1, 8, (4, -1)), (0, 32, (HUGE,)), (31, 32, (1,) * 32)):
                self.refused(BadPlan, index, call, n, plan, *more)
            self.refused(TooMany, 20736, call, *MORE_STATES, *more)
            self.refused(TooMany, 32768, call, 15, ladder(15), *more)

    def test_cups(self):
        for error, what, pairs in BAD_CUPS:
            self.refused(error, what, cup_number, 4, (2, 1), pairs)
        self.refused(Unlike, 3, cup_number, 4, (2, 1), (S, S, S))
        # A plain field lets nobody be beaten by a lesser side.
        self.refused(BadGame, (1, 3), cup_number, 2, (1,), (S, (1, 0)))
        for cup in ((S,) * 4, ((1, 1), S, S, S), ((1, 1), (2, 2), (3, 3), S), ((1, 3), (1, 2), S, S)):
            self.refused(NotSame, 0, cup_number, 4, (2, 1), cup)
        self.refused(NotSame, 0, cup_number, 4, (), ((1, 1), S, S, S))
        self.refused(BadCount, 0, drawn_cup, 4, (2, 1), ())
