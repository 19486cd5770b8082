"""Wide cups and their classes, listed by what the document says of them."""

import itertools

from boutstairs.errors import BadCount, BadGame, BadRounds, BadWidth, Unlike
from boutstairs.fieldmakes import plain
from tests.helpers import S, Case
from tests.listings import may

# Pairs for plain(4) with two losers a game that are no wide cup, with what wide_made says of them.
BAD_WIDE = (
    (Unlike, 0, ()),
    (Unlike, 3, (S, S, S)),
    (Unlike, 5, ((9, 9), S, S, S, S)),
    (BadGame, (1, 0), (S, (1, 1), S, (9, 9))),
    (BadGame, (0, 0), ((1, 4), S, (1, 4), S)),
    (BadRounds, 1, ((2, 3), (3, 0), S, S)),
    (BadGame, (0, 1), ((1, 1), (1, 2), S, S)),
    (BadGame, (1, 3), (S, (1, 0), S, S)),
    (BadCount, 2, ((1, 2), (2, 3), S, S)),
    (BadCount, 3, ((1, 3), (1, 3), (1, 3), S)),
)


class WideCase(Case):
    """A test case that asks for the errors of wide cups."""

    def asks_wide(self, call, *more):
        """Whatever else is handed in, the number of losers is looked at first, then the wide cup."""
        for many in (0, 8, -1, 10 ** 300):
            self.refused(BadWidth, many, call, plain(4), many, (), *more)
        for error, what, pairs in BAD_WIDE:
            self.refused(error, what, call, plain(4), 2, pairs, *more)

    def asks_wide_pair(self, call, *more):
        """The same, and behind the first wide cup the second one."""
        self.asks_wide(call, (), *more)
        for error, what, pairs in BAD_WIDE:
            self.refused(error, what, call, plain(4), 2, ((1, 3), (1, 3), S, S), pairs, *more)


def wide_rounds(field, many, sides):
    """All ways to play a round among these sides, perhaps no game: dicts from losers to winners."""
    found = []

    def place(games, index):
        if index == len(sides):
            beaters = list(games.values())
            if all(beaters.count(y) == many and y not in games for y in beaters):
                found.append(dict(games))
            return
        x = sides[index]
        place(games, index + 1)
        for y in sides:
            if may(field, y, x) and y not in games and x not in games.values():
                if list(games.values()).count(y) < many:
                    place({**games, x: y}, index + 1)

    place({}, 0)
    return found


def wide_cups_of(field, many):
    """All wide cups of a field, by playing round after round."""
    found = []

    def play(pairs, left, r):
        found.append(tuple(pairs))
        for games in wide_rounds(field, many, left):
            if games:
                more = [(r, games[x]) if x in games else pair for x, pair in enumerate(pairs)]
                play(more, tuple(x for x in left if x not in games), r + 1)

    play([S] * field.n, tuple(range(field.n)), 1)
    return found


def stairs(field, cup, r):
    """The losers of a round by guards descending."""
    return sorted((x for x, pair in enumerate(cup) if pair[0] == r), key=lambda x: (-field.guards[x], x))


def shape(cup):
    """What all cups of a wide class share: exits, and the winners of each round."""
    return tuple(r for r, _ in cup), tuple(sorted({pair for pair in cup if pair[0] > 0}))


def round_class(field, many, cup, r):
    """All ways to give the losers of a round its winners: tuples of beaters along the stair row, ascending."""
    row = stairs(field, cup, r)
    winners = sorted({y for s, y in cup if s == r})
    found = []

    def seat(beaters):
        if len(beaters) == len(row):
            found.append(tuple(beaters))
            return
        for y in winners:
            if may(field, y, row[len(beaters)]) and beaters.count(y) < many:
                seat(beaters + [y])

    seat([])
    return found


def class_of(field, many, cup):
    """All cups of the wide class, in the order of their numbers."""
    last = max(r for r, _ in cup)
    found = []
    for rounds in itertools.product(*[round_class(field, many, cup, r) for r in range(1, last + 1)]):
        pairs = list(cup)
        for r, beaters in enumerate(rounds, start=1):
            for x, y in zip(stairs(field, cup, r), beaters):
                pairs[x] = (r, y)
        found.append(tuple(pairs))
    return found


def one_exchange(one, two):
    """Whether two cups of one class differ by an exchange of two beaters in a round."""
    changed = [x for x in range(len(one)) if one[x] != two[x]]
    if len(changed) != 2:
        return False
    x, y = changed
    return one[x][0] == one[y][0] and one[x] == two[y] and one[y] == two[x]


def distances(cups, one):
    """For each of these cups how few exchanges lead to it from the cup one, by trying all."""
    found = {one: 0}
    queue = [one]
    for cup in queue:
        for other in cups:
            if other not in found and one_exchange(cup, other):
                found[other] = found[cup] + 1
                queue.append(other)
    return found


def some_wide_cup(field, many, draw):
    """A wide cup of the field, played by chance."""
    pairs = [S] * field.n
    left = list(range(field.n))
    r = 0
    while draw.random() < 0.95:
        draw.shuffle(left)
        idle = list(left)
        out = []
        for y in left:
            able = [x for x in idle if may(field, y, x)]
            if y in idle and len(able) >= many and draw.random() < 0.8:
                beaten = draw.sample(able, many)
                out.extend((x, y) for x in beaten)
                idle = [x for x in idle if x != y and x not in beaten]
        if not out:
            break
        r += 1
        for x, y in out:
            pairs[x] = (r, y)
            left.remove(x)
    return tuple(pairs)


def some_classes(draw, fields, many, limit):
    """Triples (field, wide cup, its class), the class not greater than the limit."""
    for field in fields:
        cup = some_wide_cup(field, many, draw)
        total = 1
        for r in range(1, max(r for r, _ in cup) + 1):
            total *= len(round_class(field, many, cup, r))
        if total <= limit:
            yield field, cup, class_of(field, many, cup)


def wide_path(cup, x):
    """The beater of x, that side's beater, and so on."""
    found = []
    while cup[x][1] >= 0:
        x = cup[x][1]
        found.append(x)
    return found
