import itertools

from boutstairs.errors import BadCount, BadPlan, BadSide, BadSize, BadWord, TooMany
from boutstairs.exitchances import exit_chances
from boutstairs.fieldmakes import plain
from boutstairs.planmakers import full, ladder, quick
from boutstairs.plans import cups_total
from boutstairs.pools import pool_of_exits, size
from boutstairs.shares import mean, share
from boutstairs.wordranks import nth_word, word_rank
from boutstairs.words import exits_of, word_fits, word_of, word_size, words_count
from tests.helpers import ODD, Case, with_odd_parts
from tests.listings import all_exits
from tests.plancups import plan_cups, plans_of

HUGE = 10 ** 300
# The greatest number of states that is let, and one that is not.
FULL_STATES = (21, (4, 4, 4, 4, 1, 1, 1, 1))
MORE_STATES = (16, (2, 2, 2, 2, 1, 1, 1, 1, 1, 1, 1))


class Listed(Case):
    def test_all_plans_of_few_sides(self):
        for n in range(1, 7):
            for plan in plans_of(n):
                if cups_total(n, plan) <= 3000:
                    self.told(n, plan)

    def told(self, n, plan):
        sizes = {}
        cups = plan_cups(n, plan)
        for cup in cups:
            word = all_exits(cup)[::-1]
            sizes[word] = sizes.get(word, 0) + 1
        self.gives(words_count, (n, plan), len(sizes))
        for k, word in enumerate(sorted(sizes)):
            self.gives(nth_word, (n, plan, k), word)
            self.gives(word_rank, (n, plan, word), k)
            self.gives(word_size, (n, plan, word), sizes[word])
            self.gives(word_fits, (n, plan, word), True)
            self.exactly(size(pool_of_exits(plain(n), exits_of(word))), sizes[word])
        for k in (-1, len(sizes), HUGE):
            self.refused(BadCount, k, nth_word, n, plan, k)
        for x in range(n):
            last = [cup[x][0] for cup in cups]
            expected = tuple(share(last.count(e), len(cups)) for e in range(len(plan) + 1))
            self.gives(exit_chances, (n, plan, x), expected)
        self.no_words(n, plan, sorted(sizes))

    def no_words(self, n, plan, words):
        if n > 4:
            return
        begun = {word[:many] for word in words for many in range(n + 1)}
        for entries in itertools.product(range(-1, len(plan) + 2), repeat=n):
            self.assertIs(word_fits(n, plan, entries), entries in words)
            if entries not in words:
                self.gives(word_size, (n, plan, entries), 0)
                bad = min(index for index in range(n) if entries[:index + 1] not in begun)
                self.refused(BadWord, (bad,), word_rank, n, plan, entries)


class Edges(Case):
    def test_examples(self):
        self.gives(words_count, (4, full(4)), 2)
        self.gives(nth_word, (4, full(4), 0), (0, 1, 2, 1))
        self.gives(nth_word, (4, full(4), 1), (0, 2, 1, 1))
        self.gives(word_size, (4, full(4), (0, 1, 2, 1)), 1)
        self.gives(word_size, (4, full(4), (0, 2, 1, 1)), 2)
        self.gives(words_count, (8, full(8)), 28)
        self.assertEqual(self.soon(words_count, 32, full(32)), 1415721106800)

    def test_no_rounds(self):
        for n in (1, 32):
            self.gives(words_count, (n, ()), 1)
            self.gives(nth_word, (n, (), 0), (0,) * n)
            self.gives(word_rank, (n, (), (0,) * n), 0)
            self.gives(word_size, (n, (), (0,) * n), 1)
            self.gives(word_fits, (n, (), (0,) * n), True)
            self.gives(exit_chances, (n, (), n - 1), ((1, 1),))

    def test_sizes_add_to_all_cups(self):
        for n, plan in ((8, full(8)), (7, quick(7)), (9, (2, 3, 1)), (7, ladder(7))):
            words = [nth_word(n, plan, k) for k in range(words_count(n, plan))]
            self.assertEqual(words, sorted(words))
            self.assertEqual(sum(word_size(n, plan, word) for word in words), cups_total(n, plan))

    def test_great_plans_come_soon(self):
        for n, plan in ((32, full(32)), (14, ladder(14)), FULL_STATES, (31, quick(31))):
            many = self.soon(words_count, n, plan)
            for k in (0, many // 3, many - 1):
                word = self.soon(nth_word, n, plan, k)
                self.assertEqual(self.soon(word_rank, n, plan, word), k)
                self.is_yes(word_fits(n, plan, word))
                self.assertEqual(word_size(n, plan, word), size(pool_of_exits(plain(n), exits_of(word))))
            for x in (0, n // 2, n - 1):
                found = self.soon(exit_chances, n, plan, x)
                self.assertEqual(mean(found), share(1, len(found)))
        for e, chance in enumerate(exit_chances(32, full(32), 31)):
            self.assertEqual(chance, (1, 1) if e == 0 else (0, 1))

    def test_the_limit_of_states(self):
        for n, plan, states in (MORE_STATES + (20736,), (15, ladder(15), 32768), (32, ladder(32), 2 ** 32)):
            self.refused(TooMany, states, words_count, n, plan)
            self.refused(TooMany, states, nth_word, n, plan, -1)
            self.refused(TooMany, states, word_rank, n, plan, ())
            self.refused(TooMany, states, exit_chances, n, plan, -1)
            # These two do not go by states.
            word = (0,) * (n - sum(plan)) + tuple(r for r in range(len(plan), 0, -1) for _ in range(plan[r - 1]))
            self.assertEqual(self.soon(word_size, n, plan, word), size(pool_of_exits(plain(n), word[::-1])))
            self.is_yes(word_fits(n, plan, word))
            self.is_no(word_fits(n, plan, word[::-1]))

    def test_turned_about(self):
        for call in (exits_of, word_of):
            self.gives(call, ((0, 2, 1, 1),), (1, 1, 2, 0))
            self.gives(call, ((-HUGE,),), (-HUGE,))
            self.gives(call, (tuple(range(32)),), tuple(range(31, -1, -1)))
            self.refused(BadSize, 0, call, ())
            self.refused(BadSize, 33, call, (0,) * 33)
            self.refused(BadSize, 100, call, (-1,) * 100)


class Errors(Case):
    def test_plans_first(self):
        for call, more in ((words_count, ()), (nth_word, (-1,)), (word_rank, ((),)), (exit_chances, (-1,)),
                           (word_fits, (None,)), (word_size, ((),))):
            for n in (0, 33, -1, HUGE):
                self.refused(BadSize, n, call, n, (0,), *more)
            for index, n, plan in ((0, 4, (0,)), (0, 4, (3,)), (1, 4, (2, 2)), (2, 4, (2, 1, 1)), (0, 1, (1,)),
                                   (1, 8, (4, -1)), (0, 32, (HUGE,)), (31, 32, (1,) * 32), (4, 16, (2,) * 4 + (0,))):
                self.refused(BadPlan, index, call, n, plan, *more)

    def test_words(self):
        plan = full(4)
        for many in (0, 3, 5, 40):
            self.refused(BadWord, many, word_rank, 4, plan, (-1,) * many)
        for index, word in ((0, (1, 0, 2, 1)), (1, (0, 0, 1, 1)), (2, (0, 1, 1, 2)), (3, (0, 1, 2, 2)),
                            (0, (-1, 0, 0, 0)), (0, (3, 9, 9, 9)), (1, (0, HUGE, 0, 0)), (3, (0, 2, 1, -HUGE))):
            self.refused(BadWord, (index,), word_rank, 4, plan, word)
        self.gives(word_size, (4, plan, ()), 0)
        self.gives(word_size, (4, plan, (0, 2, 1)), 0)
        self.gives(word_size, (4, plan, (0, 2, 1, 1, 0)), 0)
        self.gives(word_size, (4, plan, (0, 2, 1, HUGE)), 0)

    def test_sides(self):
        for bad in (-1, 4, HUGE):
            self.refused(BadSide, bad, exit_chances, 4, full(4), bad)

    def test_odd_words(self):
        word = (0, 2, 1, 1)
        self.is_yes(word_fits(4, full(4), word))
        for odd in with_odd_parts(word):
            self.is_no(word_fits(4, full(4), odd))
        for odd in ODD:
            self.is_no(word_fits(4, full(4), odd))
            self.is_no(word_fits(1, (), odd))
            self.is_no(word_fits(4, full(4), word + (odd,)))
        self.is_no(word_fits(4, full(4), (0,) * 10000))
        self.is_no(word_fits(1, (), ((0,),)))
