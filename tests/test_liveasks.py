import random

from boutstairs.deeds import offers
from boutstairs.done import done
from boutstairs.errors import AtHome, BadSide, NotSame
from boutstairs.fieldmakes import plain, ranked
from boutstairs.live import Live
from boutstairs.liveasks import can_home, chance, left, pool_now, way_home, why_not
from boutstairs.papers import paper_right
from boutstairs.pools import Pool, holds, pool_of, size
from boutstairs.shares import share
from tests.helpers import S, cups_of
from tests.listings import all_exits, listed, picture_of, some_cup, some_field
from tests.livemodel import NAMES, LiveCase, Model, told_of

HUGE = 10 ** 300
CHANGES = ("exchange",) * 8 + ("shift",) * 8 + ("play", "ease", "undo")
C = ((1, 4), (1, 5), (1, 6), (1, 7), (2, 6), (2, 7), (3, 7), S)


def own_paper(one, two, loose):
    """The paper of the document for two cups, None if they are same."""
    for x, (r, s) in enumerate(zip(all_exits(one), all_exits(two))):
        if r != s:
            return ("exit", x, r, s)
    for r in range(1, max(all_exits(one)) + 1):
        unlike = {y for s, y in one if s == r} ^ {y for s, y in two if s == r}
        if r not in loose and unlike:
            return ("rest", r, min(unlike))
    return None


def own_why(live):
    """What the document tells of why one cannot go home, None if one can."""
    found = own_paper(live.cup(), live.marked(), live.loose())
    if found is None:
        strays = [(x, live.cup()[x][1]) for x in live.played() if live.marked()[x][1] != live.cup()[x][1]]
        found = ("played",) + strays[0] if strays else None
    return found


def fewest_by_search(field, one, two, loose):
    """The least number of deeds from one cup to another, by trying all deeds."""
    reached, queue = {one: 0}, [one]
    for cup in queue:
        if cup == two:
            return reached[cup]
        for deed in offers(field, cup, loose=loose):
            after = done(field, cup, deed, loose=loose)
            if after not in reached:
                reached[after] = reached[cup] + 1
                queue.append(after)
    return None


class Wandering(LiveCase):
    def lives(self, seed, many, deeds, least=1, most=6):
        """Live cups by chance, most of them much changed."""
        draw = random.Random(seed)
        for _ in range(many):
            names = draw.choice((NAMES, CHANGES, CHANGES, CHANGES + ("flip",) * 5))
            field = some_field(draw.randrange(least, most + 1), draw)
            if names != NAMES:
                field = ranked((0,) * max(3, field.n))
            cup = max([some_cup(field, draw) for _ in range(3)], key=lambda cup: len(set(cup)))
            loose = draw.choice(((), (1,), (1, 2), (1, 2, 3)))
            live, model = Live(field, cup, loose=loose), Model(field, cup, loose)
            for _ in range(draw.randrange(deeds)):
                self.both(live, model, *self.some_deed(model, draw, names))
            yield live

    def test_going_home(self):
        reasons = {}
        homes = 0
        for live in self.lives(5, 500, 40):
            before = told_of(live)
            why = own_why(live)
            self.gives(can_home, (live,), why is None)
            if why is None:
                self.refused(AtHome, 0, why_not, live)
                homes += self.go_home(live)
            else:
                self.gives(why_not, (live,), why)
                self.refused(NotSame, 0, way_home, live)
                self.refused(NotSame, 0, left, live)
                reasons[why[0]] = reasons.get(why[0], 0) + 1
                if why[0] != "played":
                    self.is_yes(paper_right(live.field(), live.cup(), live.marked(), why, loose=live.loose()))
                self.exactly(told_of(live), before)
        self.assertGreater(homes, 40)
        self.assertGreater(reasons["exit"], 20)
        self.assertGreater(reasons["played"], 5)

    def go_home(self, live):
        run = way_home(live)
        self.assertIs(type(run), tuple)
        self.gives(left, (live,), len(run))
        if live.field().n < 6:
            self.assertEqual(len(run), fewest_by_search(live.field(), live.cup(), live.marked(), live.loose()))
        for place, (word, x, y) in enumerate(run):
            getattr(live, word)(x, y)
            self.gives(left, (live,), len(run) - place - 1)
        self.exactly(live.cup(), live.marked())
        self.gives(way_home, (live,), ())
        return len(run) > 0

    def test_without_a_flip_cup_and_mark_are_same(self):
        seen = 0
        for live in self.lives(6, 300, 30):
            words = [row[0] for row in live.record()]
            last = max([k for k, word in enumerate(words) if word == "mark"], default=-1)
            if "flip" not in words[last + 1:]:
                self.assertIsNone(own_paper(live.cup(), live.marked(), live.loose()))
                seen += 1
        self.assertGreater(seen, 100)

    def test_no_ease_takes_a_way_home_away(self):
        draw = random.Random(9)
        for live in self.lives(7, 200, 25):
            if can_home(live):
                steps = left(live)
                x = draw.randrange(live.field().n)
                live.ease(x, 10 ** 9, -10 ** 9)
                self.is_yes(can_home(live))
                self.assertEqual(left(live), steps)

    def test_pools_and_chances(self):
        for live in self.lives(8, 80, 30, most=5):
            field, cup, played = live.field(), live.cup(), live.played()
            pool = pool_now(live)
            self.assertIs(type(pool), Pool)
            expected = pool_of(field, cup, loose=live.loose())
            told = tuple((x, cup[x][1]) for x in played)
            self.exactly(picture_of(pool), picture_of(Pool(field, expected.exits, expected.halls, told)))
            kin = [other for other in cups_of(field) if own_paper(cup, other, live.loose()) is None
                   and all(other[x] == cup[x] for x in played)]
            self.assertEqual(sorted(kin), sorted(listed(pool)))
            self.exactly(size(pool), len(kin))
            self.is_yes(holds(pool, cup))
            self.assertEqual(holds(pool, live.marked()), can_home(live))
            for x in range(field.n):
                for y in range(field.n):
                    many = sum(other[x][1] == y for other in kin)
                    self.gives(chance, (live, x, y), share(many, len(kin)))


class Edges(LiveCase):
    def test_at_home_from_the_beginning(self):
        for field, cup in ((plain(8), C), (plain(1), (S,)), (plain(32), (S,) * 32)):
            live = Live(field, cup)
            self.gives(can_home, (live,), True)
            self.gives(way_home, (live,), ())
            self.gives(left, (live,), 0)
            self.refused(AtHome, 0, why_not, live)

    def test_the_reasons_in_their_order(self):
        live = Live(ranked((0,) * 6), ((1, 3), (1, 4), (1, 5), S, S, S), loose=())
        live.exchange(0, 1)
        live.play(1)
        live.play(0)
        self.gives(why_not, (live,), ("played", 0, 4))
        self.refused(NotSame, 0, way_home, live)
        live.flip(2)
        self.gives(why_not, (live,), ("exit", 2, 0, 1))
        live.mark()
        self.gives(can_home, (live,), True)
        live.undo()
        live.undo()
        self.gives(why_not, (live,), ("played", 0, 4))

    def test_rests(self):
        # Six deeds around the loose round 1 bring another winner into round 2, with the exits of before.
        live = Live(ranked((0,) * 4), ((1, 2), (2, 2), S, S), loose=(1,))
        live.shift(0, 3)
        live.flip(0)
        self.gives(why_not, (live,), ("exit", 0, 0, 1))
        live.shift(3, 2)
        live.flip(3)
        live.shift(2, 0)
        live.flip(2)
        self.exactly(live.cup(), ((1, 2), (2, 3), S, S))
        self.gives(why_not, (live,), ("rest", 2, 2))
        self.refused(NotSame, 0, left, live)
        live.mark()
        self.gives(left, (live,), 0)

    def test_great_cups_come_soon(self):
        cup = tuple((1, x + 16) for x in range(16)) + (S,) * 16
        live = Live(ranked((0,) * 32), cup, loose=(1,))
        for x in range(15):
            live.exchange(x, x + 1)
        self.assertEqual(self.soon(left, live), 15)
        self.assertEqual(len(self.soon(way_home, live)), 15)
        self.exactly(self.soon(chance, live, 0, 31), (1, 16))
        live.play(3)
        self.exactly(self.soon(chance, live, 0, 31), (1, 15))
        self.gives(why_not, (live,), ("played", 3, live.cup()[3][1]))

    def test_sides(self):
        live = Live(plain(8), C)
        for bad in (-1, 8, HUGE):
            self.refused(BadSide, bad, chance, live, bad, -5)
            self.refused(BadSide, bad, chance, live, 7, bad)
        self.gives(chance, (live, 0, 4), (1, 4))
        self.gives(chance, (live, 7, 7), (0, 1))
