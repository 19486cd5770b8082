"""A live cup by the words of the document, step by step, beside which that of the program is tried."""

from boutstairs.errors import (
    BadDeed, BadGuard, BadSide, BadStrength, NoGame, NothingToRedo, NothingToUndo, NotReady, Played, TooMany)
from boutstairs.fields import made_field
from tests.helpers import S, Case
from tests.listings import all_exits, may
from tests.test_strikes import lets_flip, turned_round

MOST = 10 ** 9
NAMES = ("exchange", "exchange", "shift", "shift", "play", "flip", "ease", "mark", "undo", "redo")


class No(Exception):
    """What the program should raise: an error and its `what`."""


class Model:
    def __init__(self, field, cup, loose):
        self.loose = loose
        # The states (strengths, guards, cup, mark, played) before each standing deed, and the one now.
        self.states = [(field.strengths, field.guards, cup, cup, ())]
        self.rows = []
        self.undone = []

    def told(self):
        """All that can be seen of it."""
        strengths, guards, cup, mark, played = self.states[-1]
        return (len(strengths), strengths, guards), cup, self.loose, mark, played, tuple(self.rows)

    def let(self, row, **changes):
        if len(self.rows) == 300:
            raise No(TooMany, 301)
        names = ("strengths", "guards", "cup", "mark", "played")
        now = dict(zip(names, self.states[-1]))
        now.update(changes)
        self.states.append(tuple(now[name] for name in names))
        self.rows.append(row)
        self.undone = []

    def field(self):
        return made_field(self.states[-1][0], self.states[-1][1])

    def do(self, name, *numbers):
        getattr(self, name)(*numbers)

    def exchange(self, x, y):
        field, (_, _, cup, _, played) = self.field(), self.states[-1]
        if not x < y:
            raise No(BadDeed, 0)
        if x < 0 or y >= field.n:
            raise No(BadDeed, 1)
        (r, u), (s, v) = cup[x], cup[y]
        if r != s or r == 0 or not may(field, v, x) or not may(field, u, y):
            raise No(BadDeed, 2)
        for z in (x, y):
            if z in played:
                raise No(Played, z)
        pairs = list(cup)
        pairs[x], pairs[y] = cup[y], cup[x]
        self.let(("exchange", x, y), cup=tuple(pairs))

    def shift(self, x, y):
        field, (_, _, cup, _, played) = self.field(), self.states[-1]
        if not (0 <= x < field.n and 0 <= y < field.n):
            raise No(BadDeed, 1)
        r, b = cup[x]
        rests = (cup[y][0] == 0 or cup[y][0] > r) and (r, y) not in cup
        if r == 0 or r not in self.loose or not rests or not may(field, y, x):
            raise No(BadDeed, 2)
        if x in played:
            raise No(Played, x)
        self.let(("shift", x, y, b), cup=cup[:x] + ((r, y),) + cup[x + 1:])

    def open_game(self, x):
        _, _, cup, _, played = self.states[-1]
        if not 0 <= x < len(cup):
            raise No(BadSide, x)
        if cup[x] == S:
            raise No(NoGame, (x, -1))
        if x in played:
            raise No(Played, x)

    def play(self, x):
        self.open_game(x)
        _, _, cup, _, played = self.states[-1]
        for r in range(1, cup[x][0]):
            if any(last == r and z not in played for z, last in enumerate(all_exits(cup))):
                raise No(NotReady, r)
        self.let(("play", x), played=tuple(sorted(played + (x,))))

    def flip(self, x):
        self.open_game(x)
        cup = self.states[-1][2]
        if not lets_flip(self.field(), cup, x):
            raise No(BadDeed, 2)
        self.let(("flip", x), cup=turned_round(cup, x))

    def ease(self, x, strength, guard):
        strengths, guards = self.states[-1][:2]
        if not 0 <= x < len(strengths):
            raise No(BadSide, x)
        if not strengths[x] <= strength <= MOST:
            raise No(BadStrength, strength)
        if not -MOST <= guard <= guards[x]:
            raise No(BadGuard, guard)
        self.let(("ease", x, strength, guard, strengths[x], guards[x]),
                 strengths=strengths[:x] + (strength,) + strengths[x + 1:],
                 guards=guards[:x] + (guard,) + guards[x + 1:])

    def mark(self):
        self.let(("mark",), mark=self.states[-1][2])

    def undo(self):
        if not self.rows:
            raise No(NothingToUndo, 0)
        self.undone.append((self.rows.pop(), self.states.pop()))

    def redo(self):
        if not self.undone:
            raise No(NothingToRedo, 0)
        row, state = self.undone.pop()
        self.rows.append(row)
        self.states.append(state)


def told_of(live):
    """All that can be seen of a live cup of the program."""
    field = live.field()
    return ((field.n, field.strengths, field.guards), live.cup(), live.loose(), live.marked(), live.played(),
            live.record())


class LiveCase(Case):
    def both(self, live, model, name, *numbers):
        """The live cup does, or refuses, just what the model does; returns whether it was let."""
        try:
            model.do(name, *numbers)
        except No as no:
            error, what = no.args
            before = told_of(live)
            self.refused(error, what, getattr(live, name), *numbers)
            self.exactly(told_of(live), before)
            self.exactly(told_of(live), model.told())
            return False
        self.assertIsNone(getattr(live, name)(*numbers))
        self.exactly(told_of(live), model.told())
        return True

    def some_deed(self, model, draw, names=NAMES):
        """A deed by chance, often one that is let, sometimes one with strange numbers."""
        n = len(model.states[-1][2])
        sides = list(range(n)) + [-1, n, 10 ** 300][:draw.choice((0, 0, 0, 3))]
        name = draw.choice(names)
        if name == "exchange":
            pair = draw.choice(sides), draw.choice(sides)
            return (name,) + (pair if draw.random() < 0.1 else tuple(sorted(pair)))
        if name == "shift":
            return name, draw.choice(sides), draw.choice(sides)
        if name in ("play", "flip"):
            return name, draw.choice(sides)
        if name == "ease":
            x = draw.choice(sides)
            if not 0 <= x < n:
                return name, x, 10 ** 300, 10 ** 300
            strengths, guards = model.states[-1][:2]
            return (name, x, draw.choice((strengths[x], strengths[x] + 1, strengths[x] - 1, MOST, MOST + 1)
                                         if draw.random() < 0.2 else (strengths[x], strengths[x] + 1)),
                    draw.choice((guards[x], guards[x] - 1, guards[x] + 1, -MOST, -MOST - 1)
                                if draw.random() < 0.2 else (guards[x], guards[x] - 1)))
        return (name,)
