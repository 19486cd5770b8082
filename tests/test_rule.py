import itertools
import random

from boutstairs.cuplooks import exits, winners
from boutstairs.errors import NotSame
from boutstairs.fieldlooks import stair_row
from boutstairs.fieldmakes import margined, plain, ranked
from boutstairs.fields import made_field
from boutstairs.judged import run_right
from boutstairs.papers import paper, paper_right
from boutstairs.rule import fewest, run_between
from boutstairs.ways import same, ways
from tests.helpers import ODD, S, Case, cups_of, with_odd_parts
from tests.test_ways import distances

HUGE = 10 ** 300
C = ((1, 4), (1, 5), (1, 6), (1, 7), (2, 6), (2, 7), (3, 7), S)
RING = ((1, 5), (1, 6), (1, 4)) + C[3:]
CHAINED = made_field((0, 0, 1, 1, 1), (0, 0, 9, 9, 9))
ONE, TWO = ((1, 2), (1, 3), S, S, S), ((1, 3), (1, 4), S, S, S)
FIELDS = (
    plain(4), ranked((0, 0, 0, 0)), margined((0, 1, 2, 3), 1), made_field((1, 3, 1, 3), (1, 3, 1, 0)),
    made_field((0, 0, 5, 7, 6), (0, 0, 9, 9, 9)))


def told_run(field, one, two, loose):
    """The run that the document tells, done step by step on the whole cup."""
    run, now = [], list(one)
    for r, kind, row in ways(field, one, two, loose=loose):
        if kind == "chain":
            for x in reversed(row):
                run.append(("shift", x, two[x][1]))
                now[x] = two[x]
            continue
        while any(now[x] != two[x] for x in row):
            first = [x for x in stair_row(field, tuple(sorted(row))) if now[x] != two[x]][0]
            other = now.index(two[first])
            now[first], now[other] = now[other], now[first]
            run.append(("exchange", min(first, other), max(first, other)))
    return tuple(run)


def told_papers(field, one, two, loose):
    """All papers that are right on two cups, the due one first."""
    found = []
    first, second = exits(field, one), exits(field, two)
    for x in range(field.n):
        if first[x] != second[x]:
            found.append(("exit", x, first[x], second[x]))
    for r in range(1, max(first + second) + 1):
        if r not in loose:
            wins = [winners(field, cup, r) if r <= max(exits(field, cup)) else () for cup in (one, two)]
            found.extend(("rest", r, y) for y in range(field.n) if (y in wins[0]) != (y in wins[1]))
    return found


class Rule(Case):
    def test_all_cups_of_small_fields(self):
        for field in FIELDS:
            cups = cups_of(field)
            for loose in ((), (1,), (2,), (1, 2, 3), (4, HUGE)):
                for one in cups[::max(1, len(cups) // 12)]:
                    near = distances(field, one, loose)
                    for two in cups:
                        if two in near:
                            self.told(field, one, two, loose, near[two])
                        else:
                            self.not_same(field, one, two, loose)

    def told(self, field, one, two, loose, far):
        self.exactly(fewest(field, one, two, loose=loose), far)
        self.exactly(fewest(field, two, one, loose=loose), far)
        run = run_between(field, one, two, loose=loose)
        self.exactly(run, told_run(field, one, two, loose))
        self.assertEqual(len(run), far)
        self.is_yes(run_right(field, one, run, two, loose=loose))
        self.assertIs(paper(field, one, two, loose=loose), None)
        self.assertEqual(told_papers(field, one, two, loose), [])

    def not_same(self, field, one, two, loose):
        for call in (fewest, run_between):
            self.refused(NotSame, 0, call, field, one, two, loose=loose)
        right = told_papers(field, one, two, loose)
        self.exactly(paper(field, one, two, loose=loose), right[0])
        for one_paper in right:
            self.is_yes(paper_right(field, one, two, one_paper, loose=loose))

    def test_papers_of_every_number(self):
        field = ranked((0, 0, 1, 1))
        cups = cups_of(field)
        every = [("exit", x, r, s) for x in range(-1, 5) for r in range(-1, 4) for s in range(-1, 4)]
        every += [("rest", r, y) for r in range(-1, 5) for y in range(-2, 5)]
        for loose in ((), (2,), (1, 3)):
            for one, two in itertools.product(cups[::12], cups[::9]):
                right = told_papers(field, one, two, loose)
                for told in every:
                    self.assertIs(paper_right(field, one, two, told, loose=loose), told in right)

    def test_one_round_of_seven_and_eight(self):
        draw = random.Random(20)
        for many, loose in ((7, (1,)), (8, ())):
            for _ in range(6):
                strengths = (0,) * 3 + tuple(draw.randrange(1, 4) for _ in range(many - 3))
                field = made_field(strengths, (1,) + tuple(draw.randrange(3) for _ in range(2)) + (0,) * (many - 3))
                cups = list(self.three_losers(field))
                one = draw.choice(cups)
                near = distances(field, one, loose)
                for two in cups:
                    if two in near:
                        self.told(field, one, two, loose, near[two])
                    else:
                        self.not_same(field, one, two, loose)

    def three_losers(self, field):
        for beaters in itertools.permutations(range(3, field.n), 3):
            if all(field.strengths[y] >= field.guards[x] for x, y in enumerate(beaters)):
                yield tuple((1, y) for y in beaters) + (S,) * (field.n - 3)

    def test_examples(self):
        self.exactly(run_between(CHAINED, ONE, TWO, loose=(1,)), (("shift", 1, 4), ("shift", 0, 3)))
        self.exactly(fewest(CHAINED, ONE, TWO, loose=(1,)), 2)
        self.exactly(paper(CHAINED, ONE, TWO), ("rest", 1, 2))
        self.gives(fewest, (plain(8), C, RING), 2)
        self.gives(run_between, (plain(8), C, RING), (("exchange", 0, 2), ("exchange", 0, 1)))
        self.gives(paper, (plain(8), C, RING), None)

    def test_guards_descend_in_the_stair_row(self):
        field = made_field((0, 0, 0, 9, 9, 9), (1, 2, 2, 9, 9, 9))
        one, two = ((1, 3), (1, 4), (1, 5), S, S, S), ((1, 4), (1, 5), (1, 3), S, S, S)
        # The stair row is 1, 2, 0: side 1 has its beater first.
        self.gives(run_between, (field, one, two), (("exchange", 1, 2), ("exchange", 0, 2)))

    def test_edges(self):
        for field, cup in ((plain(1), (S,)), (plain(2), (S, S)), (plain(8), C)):
            self.gives(fewest, (field, cup, cup), 0)
            self.gives(run_between, (field, cup, cup), ())
            self.gives(paper, (field, cup, cup), None)
        halves = tuple((1, x + 16) for x in range(16)) + (S,) * 16
        moved = tuple((1, 16 + (x + 1) % 16) for x in range(16)) + (S,) * 16
        field = plain(32)
        self.assertEqual(self.soon(fewest, field, halves, moved), 15)
        run = self.soon(run_between, field, halves, moved)
        self.assertEqual(len(run), 15)
        self.is_yes(run_right(field, halves, run, moved))
        eased = ranked((0,) * 32)
        chains = tuple((1, x + 17) for x in range(15)) + (S,) * 17
        moved = tuple((1, x + 16) for x in range(15)) + (S,) * 17
        self.assertEqual(fewest(eased, chains, moved, loose=(1, HUGE)), 15)
        run = self.soon(run_between, eased, chains, moved, loose=(1, HUGE))
        self.assertEqual(run, tuple(("shift", x, x + 16) for x in range(15)))
        self.exactly(paper(eased, chains, moved, loose=(2, HUGE)), ("rest", 1, 16))

    def test_errors(self):
        for call in (fewest, run_between, paper):
            self.asks_cup(call, (), loose=(0,))
            self.asks_second_cup(call, ((1, 1), S, S, S), loose=(0,))
            self.asks_loose(call, plain(4), ((1, 1), S, S, S), ((1, 2), S, S, S))
        self.asks_cup(paper_right, (), None, loose=(0,))
        self.asks_second_cup(paper_right, ((1, 1), S, S, S), None, loose=(0,))
        self.asks_loose(paper_right, plain(4), ((1, 1), S, S, S), ((1, 2), S, S, S), None)
        for call in (fewest, run_between):
            self.refused(NotSame, 0, call, plain(4), ((1, 1), S, S, S), ((1, 2), S, S, S), loose=(2, 3))


class Papers(Case):
    def test_exits_come_first(self):
        field = plain(4)
        one, two = ((1, 1), (2, 3), S, S), ((1, 2), S, S, S)
        self.gives(paper, (field, one, two), ("exit", 1, 2, 0))
        self.gives(paper, (field, two, one), ("exit", 1, 0, 2))
        self.gives(paper_right, (field, one, two, ("exit", 1, 2, 0)), True)
        self.gives(paper_right, (field, one, two, ("exit", 1, 0, 2)), False)
        # Rests count where exits are unlike, too, and in a round that just one of the cups has.
        self.gives(paper_right, (field, one, two, ("rest", 1, 1)), True)
        self.gives(paper_right, (field, one, two, ("rest", 1, 2)), True)
        self.gives(paper_right, (field, one, two, ("rest", 2, 3)), True)
        self.gives(paper_right, (field, one, two, ("rest", 3, 3)), False)
        self.is_no(paper_right(field, one, two, ("rest", 1, 1), loose=(1,)))
        self.is_yes(paper_right(field, one, two, ("rest", 2, 3), loose=(1,)))
        self.is_yes(paper_right(field, one, two, ("exit", 1, 2, 0), loose=(1, 2, HUGE)))

    def test_least_round_that_is_not_loose(self):
        field = ranked((0,) * 7)
        one = ((1, 3), (2, 3), (3, 3)) + (S,) * 4
        two = ((1, 4), (2, 5), (3, 6)) + (S,) * 4
        for loose, told in (((), ("rest", 1, 3)), ((1,), ("rest", 2, 3)), ((1, 2), ("rest", 3, 3)), ((1, 2, 3), None)):
            self.exactly(paper(field, one, two, loose=loose), told)

    def test_odd_papers(self):
        field = plain(4)
        one, two = ((1, 1), (2, 3), S, S), ((1, 2), S, S, S)
        for right in (("exit", 1, 2, 0), ("rest", 1, 2)):
            self.is_yes(paper_right(field, one, two, right))
            for odd in with_odd_parts(right):
                self.is_no(paper_right(field, one, two, odd))
            for odd in ODD:
                self.is_no(paper_right(field, one, two, right + (odd,)))
        for odd in (("rest", 0, 1), ("rest", -1, 1), ("rest", HUGE, 1), ("rest", 1, HUGE), ("rest", 1, -1),
                    ("exit", -3, 2, 0), ("exit", 4, 0, 0), ("exit", 0, 1, 1), ("few", 1, 2), ("rest", "1", 2)):
            self.is_no(paper_right(field, one, two, odd))
        for odd in ODD + (("exit", 0, 1, 1), ("rest", 1, 1), ("rest", 2, 1)):
            self.is_no(paper_right(field, one, one, odd))

    def test_same_exactly_without_papers(self):
        draw = random.Random(21)
        field = ranked((0,) * 5)
        cups = cups_of(field)
        for loose in ((), (1,), (2, 3)):
            for _ in range(1500):
                one, two = draw.choice(cups), draw.choice(cups)
                found = paper(field, one, two, loose=loose)
                self.assertIs(found is None, same(field, one, two, loose=loose))
                self.assertIs(paper_right(field, one, two, found, loose=loose), found is not None)
