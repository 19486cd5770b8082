import itertools

from boutstairs.cuplooks import exits, rounds, winners
from boutstairs.cups import made_cup
from boutstairs.deeds import offers
from boutstairs.done import back_of, done
from boutstairs.errors import BadDeed, BadLoose
from boutstairs.fieldmakes import margined, plain, ranked
from boutstairs.fields import made_field
from tests.helpers import S, Case, cups_of

HUGE = 10 ** 300
C = ((1, 4), (1, 5), (1, 6), (1, 7), (2, 6), (2, 7), (3, 7), S)
FIELDS = (plain(4), ranked((0, 0, 0, 0)), margined((0, 1, 2, 3), 1), made_field((0, 3, 1, 3), (1, 3, 1, 0)), plain(1))
LOOSE = ((), (1,), (2,), (1, 2, 3), (7, HUGE))
NO_DEEDS = (
    (), ("exchange",), ("exchange", 0), ("exchange", 0, 1, 2), ("shift", 0), ("shift", 0, 1, 1), (0, 1, 2),
    ("exchang", 0, 1), ("Exchange", 0, 1), ("", 0, 1), ("shifts", 0, 1), ("exchange", "0", 1), ("exchange", 0, "1"),
    ("shift", "", 1), ("shift", 0, "shift"), ("exchange", "a", "b"), (0, "exchange", 1), ("exchange", 1, 1),
    ("exchange", 1, 0), ("exchange", 9, 8), ("exchange", HUGE, -HUGE), ("shift",) * 3, (HUGE, HUGE, HUGE))


def all_deeds(n):
    """All tuples with the form of a deed on sides, ascending."""
    sides = range(n)
    found = [("exchange", x, y) for x in sides for y in sides if x < y]
    return found + [("shift", x, y) for x in sides for y in sides]


def result(field, cup, deed, loose):
    """The cup behind a deed, read off the document; None if it is not let."""
    word, x, y = deed
    beat = [(v, u) for v in range(field.n) for u in range(field.n) if v != u and field.strengths[v] >= field.guards[u]]
    pairs = list(cup)
    r, u = cup[x]
    if r == 0:
        return None
    if word == "exchange":
        s, v = cup[y]
        if s != r or (v, x) not in beat or (u, y) not in beat:
            return None
        pairs[x], pairs[y] = (r, v), (r, u)
    else:
        resting = (cup[y][0] == 0 or cup[y][0] > r) and (r, y) not in cup
        if r not in loose or not resting or (y, x) not in beat:
            return None
        pairs[x] = (r, y)
    return tuple(pairs)


class Deeds(Case):
    def test_the_cup_of_the_document(self):
        field = plain(8)
        four = [("exchange", x, y) for x, y in itertools.combinations(range(4), 2)]
        self.gives(offers, (field, C), tuple(four) + (("exchange", 4, 5),))
        self.gives(done, (field, C, ("exchange", 0, 2)), ((1, 6), (1, 5), (1, 4)) + C[3:])
        self.gives(back_of, (field, C, ("exchange", 0, 2)), ("exchange", 0, 2))

    def test_shifts(self):
        field = made_field((0, 0, 1, 1, 1), (0, 0, 9, 9, 9))
        cup = ((1, 2), (1, 3), S, S, S)
        self.exactly(done(field, cup, ("shift", 1, 4), loose=(1,)), ((1, 2), (1, 4), S, S, S))
        self.exactly(back_of(field, cup, ("shift", 1, 4), loose=(1,)), ("shift", 1, 3))
        self.exactly(offers(field, cup, loose=(1,)), (("exchange", 0, 1), ("shift", 0, 4), ("shift", 1, 4)))
        self.gives(offers, (field, cup), (("exchange", 0, 1),))
        self.refused(BadDeed, 2, done, field, cup, ("shift", 1, 4))
        self.refused(BadDeed, 2, done, field, cup, ("shift", 1, 2), loose=(1,))
        self.refused(BadDeed, 2, done, field, cup, ("shift", 1, 3), loose=(1,))
        self.refused(BadDeed, 2, done, field, cup, ("shift", 2, 4), loose=(1,))
        self.refused(BadDeed, 2, done, field, cup, ("shift", 1, 4), loose=(2, 3))
        self.refused(BadDeed, 2, done, field, cup, ("shift", 1, 1), loose=(1,))

    def test_all_deeds_of_all_cups(self):
        for field in FIELDS:
            for cup in cups_of(field):
                for loose in LOOSE:
                    let = []
                    for deed in all_deeds(field.n):
                        after = result(field, cup, deed, loose)
                        if after is None:
                            self.refused(BadDeed, 2, done, field, cup, deed, loose=loose)
                            self.refused(BadDeed, 2, back_of, field, cup, deed, loose=loose)
                        else:
                            let.append(deed)
                            self.do(field, cup, deed, loose, after)
                    self.exactly(offers(field, cup, loose=loose), tuple(let))
                    self.assertEqual(sorted(let), let)

    def do(self, field, cup, deed, loose, after):
        self.exactly(done(field, cup, deed, loose=loose), after)
        made_cup(field, after)
        self.assertEqual(exits(field, cup), exits(field, after))
        for r in range(1, rounds(field, cup) + 1):
            if r not in loose:
                self.assertEqual(winners(field, cup, r), winners(field, after, r))
        back = back_of(field, cup, deed, loose=loose)
        expected = deed if deed[0] == "exchange" else ("shift", deed[1], cup[deed[1]][1])
        self.exactly(back, expected)
        self.assertEqual(done(field, after, back, loose=loose), cup)

    def test_edges(self):
        self.gives(offers, (plain(1), (S,)), ())
        self.gives(offers, (plain(2), (S, S)), ())
        halves = tuple((1, x + 16) for x in range(16)) + (S,) * 16
        self.assertEqual(len(self.soon(offers, plain(32), halves, loose=(1,))), 120)
        one = ((1, 31),) + (S,) * 31
        found = self.soon(offers, plain(32), one, loose=(1,))
        self.assertEqual(found, tuple(("shift", 0, y) for y in range(1, 31)))
        ladder = tuple((x + 1, 31) for x in range(31)) + (S,)
        self.assertEqual(len(offers(plain(32), ladder, loose=tuple(range(1, 32)))), 30 * 31 // 2)

    def test_errors(self):
        self.asks_cup(offers, loose=(0,))
        self.asks_loose(offers, plain(8), C)
        for call in (done, back_of):
            self.asks_cup(call, (), loose=(0,))
            for deed in NO_DEEDS:
                self.refused(BadDeed, 0, call, plain(8), C, deed, loose=(0,))
            for x, y in ((-1, 0), (0, 8), (8, 9), (-HUGE, HUGE), (7, HUGE)):
                self.refused(BadDeed, 1, call, plain(8), C, ("exchange", x, y), loose=(0,))
                self.refused(BadDeed, 1, call, plain(8), C, ("shift", x, y), loose=(0,))
                self.refused(BadDeed, 1, call, plain(8), C, ("shift", y, x), loose=(0,))
            # A deed that is not let is found behind the loose rounds alone.
            for deed in (("exchange", 0, 4), ("shift", 0, 0), ("exchange", 6, 7), ("exchange", 0, 1)):
                self.asks_loose(call, plain(8), C, deed)
            self.refused(BadLoose, 0, call, plain(8), C, ("exchange", 0, 4), loose=(0,))
            for deed in (("exchange", 0, 4), ("exchange", 6, 7), ("shift", 7, 6), ("shift", 0, 5), ("shift", 4, 4)):
                self.refused(BadDeed, 2, call, plain(8), C, deed, loose=(1, 2, 3))
        # Each of the two must be one that the other's beater may beat.
        cup = ((1, 2), (1, 3), S, S)
        self.refused(BadDeed, 2, done, made_field((0, 0, 5, 9), (5, 9, 0, 0)), cup, ("exchange", 0, 1))
        self.refused(BadDeed, 2, done, made_field((0, 0, 9, 5), (9, 5, 0, 0)), cup, ("exchange", 0, 1))
