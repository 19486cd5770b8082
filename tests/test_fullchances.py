import itertools

from boutstairs.errors import BadPair, BadRound, BadSide
from boutstairs.exitchances import exit_chances
from boutstairs.fullchances import full_play, full_wins
from boutstairs.planmakers import full
from boutstairs.polys import choose
from boutstairs.shares import plus, share
from tests.helpers import Case
from tests.plancups import plan_cups

HUGE = 10 ** 300


class Listed(Case):
    def test_up_to_eight_sides(self):
        for k in range(4):
            n = 2 ** k
            cups = plan_cups(n, full(n))
            for x in range(n):
                won = [len([z for z in range(n) if cup[z][1] == x]) for cup in cups]
                self.gives(full_wins, (k, x), tuple(share(won.count(t), len(cups)) for t in range(k + 1)))
            for x, y in itertools.permutations(range(n), 2):
                met = [max([r for r in range(1, k + 1) if cup[x] == (r, y) or cup[y] == (r, x)], default=0)
                       for cup in cups]
                expected = tuple(share(met.count(r), len(cups)) for r in range(1, k + 1))
                self.gives(full_play, (k, x, y), expected)


class Great(Case):
    def test_wins_are_exits(self):
        for k in range(6):
            n = 2 ** k
            for x in range(n):
                chances = exit_chances(n, full(n), x)
                self.gives(full_wins, (k, x), chances[1:] + chances[:1])

    def test_somebody_is_played(self):
        for k in (4, 5):
            n = 2 ** k
            for x in range(n):
                for r in range(1, k + 1):
                    total = (0, 1)
                    for y in range(n):
                        if y != x:
                            total = plus(total, full_play(k, x, y)[r - 1])
                    least = 2 ** (r - 1) - 1
                    self.assertEqual(total, share(choose(x, least), choose(n - 1, least)))

    def test_edges(self):
        self.gives(full_wins, (0, 0), ((1, 1),))
        self.gives(full_wins, (1, 0), ((1, 1), (0, 1)))
        self.gives(full_wins, (5, 31), ((0, 1),) * 5 + ((1, 1),))
        self.gives(full_wins, (5, 0), ((1, 1),) + ((0, 1),) * 5)
        self.gives(full_play, (1, 0, 1), ((1, 1),))
        self.gives(full_play, (5, 31, 0), full_play(5, 0, 31))
        self.gives(full_play, (5, 0, 31), ((1, 31),) + ((0, 1),) * 4)


class Errors(Case):
    def test_rounds_first(self):
        for k in (-1, 6, HUGE, -HUGE):
            self.refused(BadRound, k, full_wins, k, -1)
            self.refused(BadRound, k, full_play, k, -1, -1)

    def test_sides(self):
        for k in range(6):
            for bad in (-1, 2 ** k, HUGE):
                self.refused(BadSide, bad, full_wins, k, bad)
                self.refused(BadSide, bad, full_play, k, bad, 99)
                self.refused(BadSide, bad, full_play, k, 0, bad)
            for x in range(2 ** k):
                self.refused(BadPair, x, full_play, k, x, x)
