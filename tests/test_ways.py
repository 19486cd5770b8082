import itertools
import random

from boutstairs.cuplooks import exits, rounds, winners
from boutstairs.cups import made_cup
from boutstairs.deeds import offers
from boutstairs.done import done
from boutstairs.errors import NotSame
from boutstairs.fieldmakes import margined, plain, ranked
from boutstairs.fields import made_field
from boutstairs.ways import same, ways
from tests.helpers import S, Case, cups_of

HUGE = 10 ** 300
C = ((1, 4), (1, 5), (1, 6), (1, 7), (2, 6), (2, 7), (3, 7), S)


def told_same(field, one, two, loose):
    if exits(field, one) != exits(field, two):
        return False
    each = [r for r in range(1, rounds(field, one) + 1) if r not in loose]
    return all(winners(field, one, r) == winners(field, two, r) for r in each)


def told_ways(one, two):
    """The ways of cups that are same, each found from one of its sides by going both ways."""
    found = []
    for r in range(1, max(s for s, _ in one) + 1):
        losing = [x for x in range(len(one)) if one[x][0] == r]
        goes = {x: y for x in losing for y in losing if one[y][1] == two[x][1]}
        comes = {y: x for x, y in goes.items()}
        left = [x for x in losing if one[x] != two[x]]
        while left:
            row = [left[0]]
            while row[-1] in goes and goes[row[-1]] != row[0]:
                row.append(goes[row[-1]])
            ring = row[-1] in goes
            while not ring and row[0] in comes:
                row.insert(0, comes[row[0]])
            found.append((r, "ring" if ring else "chain", tuple(row)))
            left = [x for x in left if x not in row]
    # The rows of a round were found from their least sides, so they stand in their order.
    return tuple(found)


def distances(field, cup, loose):
    """How many deeds lead from the cup to each one that comes of it, at least."""
    found = {cup: 0}
    row = [cup]
    for now in row:
        for deed in offers(field, now, loose=loose):
            after = done(field, now, deed, loose=loose)
            if after not in found:
                found[after] = found[now] + 1
                row.append(after)
    return found


class Same(Case):
    def test_same_are_those_that_come_of_one_another(self):
        for field in (plain(4), ranked((0, 0, 0, 0)), margined((0, 1, 2, 3), 1), made_field((1, 3, 1, 3), (1, 3, 1, 0))):
            cups = cups_of(field)
            for loose in ((), (1,), (2,), (1, 2, 3), (4, HUGE)):
                for one in cups[::3]:
                    near = distances(field, one, loose)
                    for two in cups:
                        self.assertIs(same(field, one, two, loose=loose), two in near)
                        self.assertEqual(two in near, told_same(field, one, two, loose))
                        if two in near:
                            self.told(field, one, two, loose, near[two])
                        else:
                            self.refused(NotSame, 0, ways, field, one, two, loose=loose)

    def told(self, field, one, two, loose, far):
        """The ways are those of the document; their sides less their rings are the fewest deeds."""
        found = ways(field, one, two, loose=loose)
        self.exactly(found, told_ways(one, two))
        if far is not None:
            self.assertEqual(sum(len(row) - (kind == "ring") for _, kind, row in found), far)
        goes = {}
        for r, kind, row in found:
            self.assertIn(kind, ("ring", "chain"))
            self.assertTrue(kind == "ring" or r in loose)
            for x, y in zip(row, row[1:]):
                goes[x] = y
            if kind == "ring":
                self.assertGreaterEqual(len(row), 2)
                self.assertEqual(row[0], min(row))
                goes[row[-1]] = row[0]
            for x in row:
                self.assertEqual(one[x][0], r)
        for x, y in goes.items():
            self.assertEqual(one[y], two[x])
        placed = [x for _, _, row in found for x in row]
        self.assertEqual(sorted(placed), [x for x in range(field.n) if one[x] != two[x]])
        self.assertEqual([(r, min(row)) for r, _, row in found], sorted((r, min(row)) for r, _, row in found))

    def test_one_round_of_seven(self):
        field = ranked((0,) * 7)
        for loose in ((), (1,)):
            for first in ((3, 4, 5), (6, 3, 5), (4, 6, 3)):
                one = tuple((1, y) for y in first) + (S,) * 4
                near = distances(field, one, loose)
                self.assertEqual(len(near), 24 if loose else 6)
                for seats in itertools.permutations((3, 4, 5, 6), 3):
                    two = tuple((1, y) for y in seats) + (S,) * 4
                    self.assertIs(same(field, one, two, loose=loose), two in near)
                    if two in near:
                        self.told(field, one, two, loose, near[two])

    def test_many_rounds(self):
        draw = random.Random(10)
        for _ in range(150):
            many = draw.randrange(4, 33)
            field = ranked((0,) * many)
            one, two, last = self.two_cups(many, draw)
            self.told(field, one, two, tuple(range(1, last + 1)), None)
            strict = tuple(r for r in range(1, last + 1) if r % 2)
            if same(field, one, two, loose=strict):
                self.told(field, one, two, strict, None)

    def two_cups(self, many, draw):
        """Two cups with equal exits, by drawing the beaters of each round twice."""
        left, r = list(range(many)), 0
        one, two = [S] * many, [S] * many
        while len(left) > 1 and r < 4:
            r += 1
            losing = draw.sample(left, draw.randrange(1, len(left) // 2 + 1))
            left = [x for x in left if x not in losing]
            for pairs in (one, two):
                for x, y in zip(losing, draw.sample(left, len(losing))):
                    pairs[x] = (r, y)
        made_cup(ranked((0,) * many), tuple(one))
        return tuple(one), tuple(two), r

    def test_examples(self):
        field = made_field((0, 0, 1, 1, 1), (0, 0, 9, 9, 9))
        one, two = ((1, 2), (1, 3), S, S, S), ((1, 3), (1, 4), S, S, S)
        self.exactly(ways(field, one, two, loose=(1,)), ((1, "chain", (0, 1)),))
        self.is_yes(same(field, one, two, loose=(1,)))
        self.is_no(same(field, one, two))
        self.is_no(same(field, one, two, loose=(2,)))
        self.refused(NotSame, 0, ways, field, one, two)
        self.exactly(ways(field, two, one, loose=(1,)), ((1, "chain", (1, 0)),))
        ring = ((1, 5), (1, 6), (1, 4)) + C[3:]
        self.gives(ways, (plain(8), C, ring), ((1, "ring", (0, 1, 2)),))
        self.gives(ways, (plain(8), ring, C), ((1, "ring", (0, 2, 1)),))
        self.gives(same, (plain(8), C, ring), True)

    def test_ways_of_several_rounds_and_kinds(self):
        field = ranked((0,) * 12)
        one = ((1, 6), (1, 7), (1, 8), (1, 9), (2, 8), (2, 9), (3, 7)) + (S,) * 5
        two = ((1, 7), (1, 6), (1, 9), (1, 10), (2, 9), (2, 8), (3, 11)) + (S,) * 5
        self.exactly(ways(field, one, two, loose=(1, 3)), (
            (1, "ring", (0, 1)), (1, "chain", (2, 3)), (2, "ring", (4, 5)), (3, "chain", (6,))))
        # The chain begins with 3, but its least side is 0.
        one = ((1, 6), (1, 7), (1, 8), (1, 9)) + (S,) * 8
        two = ((1, 10), (1, 8), (1, 7), (1, 6)) + (S,) * 8
        self.exactly(ways(field, one, two, loose=(1,)), ((1, "chain", (3, 0)), (1, "ring", (1, 2))))

    def test_edges(self):
        for field, cup in ((plain(1), (S,)), (plain(2), (S, S)), (plain(8), C)):
            self.gives(ways, (field, cup, cup), ())
            self.gives(same, (field, cup, cup), True)
        self.gives(same, (plain(3), ((1, 1), S, S), ((1, 2), S, S)), False)
        self.gives(same, (plain(3), ((1, 1), S, S), (S, (1, 2), S)), False)
        self.gives(same, (plain(3), ((1, 2), S, S), ((1, 2), (2, 2), S)), False)
        halves = tuple((1, x + 16) for x in range(16)) + (S,) * 16
        moved = tuple((1, 16 + (x + 1) % 16) for x in range(16)) + (S,) * 16
        self.exactly(self.soon(ways, plain(32), halves, moved), ((1, "ring", tuple(range(16))),))

    def test_errors(self):
        for call in (same, ways):
            self.asks_cup(call, (), loose=(0,))
            self.asks_second_cup(call, ((1, 1), S, S, S), loose=(0,))
            self.asks_loose(call, plain(4), ((1, 1), S, S, S), ((1, 2), S, S, S))
            self.asks_loose(call, plain(8), C, C)
        self.refused(NotSame, 0, ways, plain(4), ((1, 1), S, S, S), ((1, 2), S, S, S), loose=(2, 3))
