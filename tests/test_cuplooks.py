from boutstairs.cuplooks import (
    exits, games, losers, opponents, plan_of, resters, rounds, stayers, winners, wins)
from boutstairs.errors import BadRound, BadSide
from boutstairs.fieldmakes import margined, plain, ranked
from boutstairs.plans import made_plan
from tests.helpers import S, Case, cups_of

HUGE = 10 ** 300
C = ((1, 4), (1, 5), (1, 6), (1, 7), (2, 6), (2, 7), (3, 7), S)
BY_ROUND = (losers, winners, resters, games)


class Looks(Case):
    def test_looks_at_the_cup_of_the_document(self):
        field = plain(8)
        self.gives(rounds, (field, C), 3)
        self.gives(exits, (field, C), (1, 1, 1, 1, 2, 2, 3, 0))
        self.gives(losers, (field, C, 1), (0, 1, 2, 3))
        self.gives(winners, (field, C, 1), (4, 5, 6, 7))
        self.gives(resters, (field, C, 1), ())
        self.gives(games, (field, C, 2), ((4, 6), (5, 7)))
        self.gives(plan_of, (field, C), (4, 2, 1))
        self.gives(stayers, (field, C), (7,))
        self.gives(wins, (field, C), (0, 0, 0, 0, 1, 1, 2, 3))
        self.gives(opponents, (field, C, 7), (3, 5, 6))
        self.gives(opponents, (field, C, 6), (2, 4, 7))
        self.gives(opponents, (field, C, 0), (4,))

    def test_looks_at_all_cups(self):
        for field in (plain(4), ranked((0, 0, 0, 0)), margined((0, 1, 2, 3), 1), ranked((0, 0)), plain(1)):
            for cup in cups_of(field):
                self.look(field, cup)

    def look(self, field, cup):
        sides = range(field.n)
        last = max(r for r, _ in cup)
        self.gives(rounds, (field, cup), last)
        self.gives(exits, (field, cup), tuple(r for r, _ in cup))
        self.gives(stayers, (field, cup), tuple(x for x in sides if cup[x] == S))
        played = [(r, x, y) for x, (r, y) in enumerate(cup) if r > 0]
        self.gives(wins, (field, cup), tuple(sum(y == z for _, _, y in played) for z in sides))
        for r in range(1, last + 1):
            told = [(x, y) for s, x, y in played if s == r]
            self.gives(games, (field, cup, r), tuple(told))
            self.gives(losers, (field, cup, r), tuple(x for x, _ in told))
            self.gives(winners, (field, cup, r), tuple(sorted(y for _, y in told)))
            inside = [x for x in sides if cup[x][0] == 0 or cup[x][0] >= r]
            playing = [z for game in told for z in game]
            self.gives(resters, (field, cup, r), tuple(x for x in inside if x not in playing))
        plan = plan_of(field, cup)
        self.exactly(plan, tuple(len(games(field, cup, r)) for r in range(1, last + 1)))
        made_plan(field.n, plan)
        for z in sides:
            mine = sorted((r, x + y - z) for r, x, y in played if z in (x, y))
            self.gives(opponents, (field, cup, z), tuple(other for _, other in mine))

    def test_edges(self):
        self.gives(rounds, (plain(1), (S,)), 0)
        self.gives(plan_of, (plain(1), (S,)), ())
        self.gives(stayers, (plain(1), (S,)), (0,))
        self.gives(wins, (plain(1), (S,)), (0,))
        self.gives(opponents, (plain(1), (S,), 0), ())
        ladder = tuple((x + 1, 31) for x in range(31)) + (S,)
        self.gives(rounds, (plain(32), ladder), 31)
        self.gives(plan_of, (plain(32), ladder), (1,) * 31)
        self.gives(opponents, (plain(32), ladder, 31), tuple(range(31)))
        self.gives(resters, (plain(32), ladder, 31), ())
        self.gives(resters, (plain(32), ladder, 1), tuple(range(1, 31)))

    def test_errors(self):
        for call in (rounds, exits, plan_of, stayers, wins):
            self.asks_cup(call)
        for call in BY_ROUND:
            self.asks_cup(call, HUGE)
            for r in (0, 4, -1, HUGE, -HUGE):
                self.refused(BadRound, r, call, plain(8), C, r)
            for r in (0, 1, -1):
                self.refused(BadRound, r, call, plain(2), (S, S), r)
        self.asks_cup(opponents, HUGE)
        for x in (-1, 8, HUGE, -HUGE):
            self.refused(BadSide, x, opponents, plain(8), C, x)
