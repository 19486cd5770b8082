from boutstairs.boughs import bough, bough_after, holder, path
from boutstairs.errors import BadPair, BadRound, BadSide
from boutstairs.fieldmakes import margined, plain, ranked
from boutstairs.meetings import keeps_apart, meet
from tests.helpers import S, Case, cups_of

HUGE = 10 ** 300
C = ((1, 4), (1, 5), (1, 6), (1, 7), (2, 6), (2, 7), (3, 7), S)
FIELDS = (plain(4), ranked((0, 0, 0, 0)), margined((0, 1, 2, 3), 1), plain(1), ranked((7, 7)))


def some_cups():
    for field in FIELDS:
        for cup in cups_of(field):
            yield field, cup, max(r for r, _ in cup)


def held(cup, x, r):
    """The holder, one round after the other."""
    for s in range(1, r + 1):
        if cup[x][0] == s:
            x = cup[x][1]
    return x


class Boughs(Case):
    def test_the_cup_of_the_document(self):
        field = plain(8)
        self.gives(path, (field, C, 0), (4, 6, 7))
        self.gives(path, (field, C, 3), (7,))
        self.gives(path, (field, C, 7), ())
        self.gives(bough, (field, C, 6), (0, 2, 4, 6))
        self.gives(bough, (field, C, 0), (0,))
        self.gives(bough, (field, C, 7), (0, 1, 2, 3, 4, 5, 6, 7))
        for r, z in enumerate((0, 4, 6, 7)):
            self.gives(holder, (field, C, 0, r), z)
        self.gives(bough_after, (field, C, 6, 0), (6,))
        self.gives(bough_after, (field, C, 6, 1), (2, 6))
        self.gives(bough_after, (field, C, 6, 2), (0, 2, 4, 6))
        self.gives(bough_after, (field, C, 6, 3), ())
        self.gives(bough_after, (field, C, 0, 1), ())

    def test_all_cups(self):
        for field, cup, last in some_cups():
            sides = range(field.n)
            paths = []
            for x in sides:
                row, y = [], cup[x][1]
                while y != -1:
                    row.append(y)
                    y = cup[y][1]
                paths.append(tuple(row))
                self.gives(path, (field, cup, x), tuple(row))
            for x in sides:
                self.gives(bough, (field, cup, x), tuple(z for z in sides if z == x or x in paths[z]))
                for r in range(last + 1):
                    self.gives(holder, (field, cup, x, r), held(cup, x, r))
                    self.gives(bough_after, (field, cup, x, r), tuple(z for z in sides if held(cup, z, r) == x))

    def test_edges(self):
        self.gives(path, (plain(1), (S,), 0), ())
        self.gives(holder, (plain(1), (S,), 0, 0), 0)
        self.gives(bough, (plain(1), (S,), 0), (0,))
        self.gives(bough_after, (plain(2), (S, S), 1, 0), (1,))
        chain = tuple((x + 1, x + 1) for x in range(31)) + (S,)
        self.gives(path, (plain(32), chain, 0), tuple(range(1, 32)))
        self.gives(holder, (plain(32), chain, 0, 31), 31)
        self.gives(holder, (plain(32), chain, 0, 30), 30)
        self.gives(bough_after, (plain(32), chain, 31, 31), tuple(range(32)))
        self.gives(bough, (plain(32), chain, 30), tuple(range(31)))

    def test_errors(self):
        for call in (path, bough):
            self.asks_cup(call, HUGE)
            for x in (-1, 8, HUGE, -HUGE):
                self.refused(BadSide, x, call, plain(8), C, x)
        for call in (holder, bough_after):
            self.asks_cup(call, HUGE, -1)
            for x in (-1, 8, HUGE, -HUGE):
                self.refused(BadSide, x, call, plain(8), C, x, -1)
            for r in (-1, 4, HUGE, -HUGE):
                self.refused(BadRound, r, call, plain(8), C, 0, r)
            self.refused(BadRound, 1, call, plain(2), (S, S), 0, 1)


class Meetings(Case):
    def test_the_cup_of_the_document(self):
        field = plain(8)
        for x, y, game in ((0, 4, (1, 0, 4)), (0, 2, (2, 4, 6)), (1, 0, (3, 6, 7)), (6, 7, (3, 6, 7)), (7, 3, (1, 3, 7))):
            self.gives(meet, (field, C, x, y), game)
            self.gives(meet, (field, C, y, x), game)
        self.gives(meet, (plain(4), ((1, 1), S, (1, 3), S), 0, 2), None)
        self.gives(meet, (plain(2), (S, S), 0, 1), None)
        self.gives(keeps_apart, (field, C, (0, 2), 1), True)
        self.gives(keeps_apart, (field, C, (0, 2), 2), False)
        self.gives(keeps_apart, (field, C, (4, 5, 6, 7), 1), True)
        self.gives(keeps_apart, (field, C, (0, 1, 2, 3, 4), 1), False)

    def test_all_cups(self):
        for field, cup, last in some_cups():
            for x in range(field.n):
                for y in range(field.n):
                    if x != y:
                        self.met(field, cup, x, y, last)

    def met(self, field, cup, x, y, last):
        found = []
        for r in range(1, last + 1):
            for loser, (lost, winner) in enumerate(cup):
                two = {held(cup, x, r - 1), held(cup, y, r - 1)}
                if lost == r and two == {loser, winner}:
                    found.append((r, loser, winner))
        self.assertLessEqual(len(found), 1)
        self.gives(meet, (field, cup, x, y), found[0] if found else None)
        if x < y:
            for r in range(last + 1):
                apart = not found or found[0][0] > r
                self.assertIs(keeps_apart(field, cup, (x, y), r), apart)

    def test_keeps_apart_of_many(self):
        for field, cup, last in some_cups():
            for mask in range(1 << field.n):
                sides = tuple(x for x in range(field.n) if mask >> x & 1)
                for r in range(last + 1):
                    told = keeps_apart(field, cup, sides, r)
                    self.assertIs(told, len({held(cup, x, r) for x in sides}) == len(sides))

    def test_errors(self):
        self.asks_cup(meet, HUGE, HUGE)
        for x in (-1, 8, HUGE):
            self.refused(BadSide, x, meet, plain(8), C, x, 9)
            self.refused(BadSide, x, meet, plain(8), C, x, x)
            self.refused(BadSide, x, meet, plain(8), C, 3, x)
        self.refused(BadPair, 3, meet, plain(8), C, 3, 3)
        self.asks_cup(keeps_apart, (HUGE,), -1)
        for sides, bad in (((8,), 8), ((-1, 9), -1), ((0, 0), 0), ((1, 3, 2, 9), 2), ((0, HUGE), HUGE)):
            self.refused(BadSide, bad, keeps_apart, plain(8), C, sides, -1)
        for r in (-1, 4, HUGE, -HUGE):
            self.refused(BadRound, r, keeps_apart, plain(8), C, (), r)
            self.refused(BadRound, r, keeps_apart, plain(8), C, (0, 1), r)
        self.gives(keeps_apart, (plain(8), C, (), 3), True)
        self.gives(keeps_apart, (plain(1), (S,), (0,), 0), True)
