import inspect
import random

from boutstairs.errors import (
    BadDeed, BadGuard, BadLoose, BadSide, BadStrength, NoGame, NothingToRedo, NothingToUndo, NotReady, Played, TooMany)
from boutstairs.fieldmakes import margined, plain, ranked
from boutstairs.live import Live
from tests.helpers import S, Case, cups_of
from tests.listings import some_cup, some_field
from tests.livemodel import LiveCase, Model, told_of

HUGE = 10 ** 300
MOST = 10 ** 9
C = ((1, 4), (1, 5), (1, 6), (1, 7), (2, 6), (2, 7), (3, 7), S)


class Class(Case):
    def test_methods_stand_in_the_class(self):
        self.assertEqual(str(inspect.signature(Live)), "(field, cup, *, loose=())")
        self.assertEqual(Live.__module__, "boutstairs.live")
        for entry in ("field(self)", "cup(self)", "loose(self)", "marked(self)", "played(self)", "record(self)",
                      "exchange(self, x, y)", "shift(self, x, y)", "play(self, x)", "flip(self, x)",
                      "ease(self, x, strength, guard)", "mark(self)", "undo(self)", "redo(self)"):
            name = entry.partition("(")[0]
            self.assertIn(name, vars(Live))
            self.assertEqual(name + str(inspect.signature(vars(Live)[name])), entry)

    def test_making(self):
        field = plain(8)
        live = Live(field, C, loose=(1, 7))
        self.assertIs(live.field(), field)
        self.exactly(told_of(live)[1:], (C, (1, 7), C, (), ()))
        self.exactly(told_of(Live(plain(1), (S,))), ((1, (0,), (0,)), (S,), (), (S,), (), ()))
        self.asks_cup(Live, loose=(0,))
        self.asks_loose(Live, field, C)
        self.refused(BadLoose, 1, Live, field, C, loose=(2, 2))


class Deeds(LiveCase):
    def test_wandering(self):
        draw = random.Random(77)
        let = {}
        for _ in range(200):
            field = some_field(draw.randrange(1, 8), draw)
            cup = some_cup(field, draw)
            loose = draw.choice(((), (1,), (1, 2), (1, 2, 3)))
            live, model = Live(field, cup, loose=loose), Model(field, cup, loose)
            for _ in range(60):
                deed = self.some_deed(model, draw)
                if self.both(live, model, *deed):
                    let[deed[0]] = let.get(deed[0], 0) + 1
        for name in ("exchange", "shift", "play", "flip", "ease", "mark", "undo", "redo"):
            self.assertGreater(let.get(name, 0), 30, name)

    def test_all_deeds_of_small_cups(self):
        for field in (plain(3), ranked((0,) * 4), margined((0, 1, 2), 1)):
            for cup in cups_of(field)[::3]:
                for loose in ((), (1, 2)):
                    live, model = Live(field, cup, loose=loose), Model(field, cup, loose)
                    for x in range(-1, field.n + 1):
                        for name in ("flip", "play"):
                            self.both(live, model, name, x)
                        for y in range(-1, field.n + 1):
                            self.both(live, model, "exchange", x, y)
                            self.both(live, model, "shift", x, y)

    def test_a_cup_in_play(self):
        live = Live(plain(8), C)
        live.exchange(0, 1)
        live.play(0)
        self.refused(Played, 0, live.play, 0)
        self.refused(Played, 0, live.exchange, 0, 2)
        self.refused(Played, 0, live.flip, 0)
        self.refused(NotReady, 1, live.play, 4)
        for x in (1, 2, 3):
            live.play(x)
        self.refused(NotReady, 2, live.play, 6)
        live.play(4)
        self.exactly(live.played(), (0, 1, 2, 3, 4))
        self.refused(Played, 4, live.exchange, 4, 5)
        self.exactly(live.record(), (("exchange", 0, 1), ("play", 0), ("play", 1), ("play", 2), ("play", 3), ("play", 4)))
        self.refused(NoGame, (7, -1), live.play, 7)
        self.refused(NoGame, (7, -1), live.flip, 7)

    def test_all_played_to_the_end_and_back(self):
        ladder = tuple((x + 1, 31) for x in range(31)) + (S,)
        live, model = Live(plain(32), ladder), Model(plain(32), ladder, ())
        for x in range(31):
            for z in range(x + 1, 31):
                self.refused(NotReady, x + 1, live.play, z)
            self.both(live, model, "play", x)
        self.exactly(live.played(), tuple(range(31)))
        for _ in range(32):
            self.both(live, model, "undo")
        for _ in range(32):
            self.both(live, model, "redo")

    def test_shifts_tell_the_former_beater(self):
        live = Live(plain(4), ((1, 1), S, S, S), loose=(1,))
        live.shift(0, 3)
        live.shift(0, 2)
        self.exactly(live.record(), (("shift", 0, 3, 1), ("shift", 0, 2, 3)))
        self.exactly(live.cup(), ((1, 2), S, S, S))
        live.play(0)
        self.refused(Played, 0, live.shift, 0, 1)
        self.refused(BadDeed, 2, live.shift, 0, 2)
        self.refused(BadDeed, 1, live.shift, 0, 4)
        self.refused(BadDeed, 1, live.shift, -1, 0)

    def test_flips_and_eases(self):
        live = Live(plain(2), ((1, 1), S))
        self.refused(BadDeed, 2, live.flip, 0)
        live.ease(0, 1, 0)
        self.exactly(live.record(), (("ease", 0, 1, 0, 0, 0),))
        self.exactly((live.field().strengths, live.field().guards), ((1, 1), (0, 1)))
        live.flip(0)
        self.exactly(live.cup(), (S, (1, 0)))
        self.exactly(live.marked(), ((1, 1), S))
        live.mark()
        self.exactly(live.marked(), (S, (1, 0)))
        self.exactly(live.record()[1:], (("flip", 0), ("mark",)))
        live.undo()
        live.undo()
        live.undo()
        self.exactly(told_of(live), told_of(Live(plain(2), ((1, 1), S))))
        live.redo()
        live.redo()
        live.redo()
        self.exactly(live.marked(), (S, (1, 0)))
        self.refused(BadStrength, 0, live.ease, 0, 0, MOST)
        self.refused(BadStrength, MOST + 1, live.ease, 0, MOST + 1, MOST)
        self.refused(BadGuard, 1, live.ease, 0, 1, 1)
        self.refused(BadGuard, -MOST - 1, live.ease, 0, MOST, -MOST - 1)
        self.refused(BadSide, 2, live.ease, 2, -HUGE, HUGE)

    def test_errors_in_their_order(self):
        live = Live(plain(8), C)
        live.play(0)
        self.refused(BadDeed, 0, live.exchange, 9, 8)
        self.refused(BadDeed, 0, live.exchange, 0, 0)
        self.refused(BadDeed, 1, live.exchange, 0, 8)
        self.refused(BadDeed, 2, live.exchange, 0, 4)
        self.refused(Played, 0, live.exchange, 0, 1)
        live.play(2)
        self.refused(Played, 2, live.exchange, 1, 2)
        self.refused(Played, 0, live.exchange, 0, 2)
        self.refused(BadSide, HUGE, live.play, HUGE)
        self.refused(BadSide, -1, live.flip, -1)


class Undoing(LiveCase):
    def test_nothing_there(self):
        live = Live(plain(8), C)
        self.refused(NothingToUndo, 0, live.undo)
        self.refused(NothingToRedo, 0, live.redo)
        live.mark()
        self.refused(NothingToRedo, 0, live.redo)
        live.undo()
        self.refused(NothingToUndo, 0, live.undo)
        live.redo()
        self.refused(NothingToRedo, 0, live.redo)

    def test_what_can_be_redone(self):
        for name, numbers in (("exchange", (0, 1)), ("shift", (0, 7)), ("play", (0,)), ("flip", (4,)),
                              ("ease", (0, 0, 0)), ("mark", ())):
            # A refused deed leaves what can be redone; a granted one makes it forgotten.
            live = Live(ranked((0,) * 8), ((1, 4), (1, 5), (2, 5), S, (3, 6), S, S, S), loose=(1,))
            live.mark()
            live.play(1)
            live.undo()
            live.undo()
            before = told_of(live)
            for bad in (("exchange", 0, 9), ("shift", 0, 0), ("play", 9), ("flip", 7), ("ease", 0, -1, 0), ("play", 2)):
                self.assertRaises(ValueError, getattr(live, bad[0]), *bad[1:])
            live.redo()
            live.undo()
            self.exactly(told_of(live), before)
            getattr(live, name)(*numbers)
            self.refused(NothingToRedo, 0, live.redo)
            live.undo()
            self.exactly(told_of(live), before)
            live.redo()
            self.assertEqual(live.record()[0][0], name)

    def test_three_hundred_deeds(self):
        live, model = Live(ranked((0,) * 4), ((1, 2), (1, 3), S, S)), None
        model = Model(live.field(), live.cup(), ())
        for _ in range(300):
            self.both(live, model, "exchange", 0, 1)
        before = told_of(live)
        for name, numbers in (("exchange", (0, 1)), ("play", (0,)), ("flip", (0,)), ("ease", (0, 0, 0)), ("mark", ())):
            self.refused(TooMany, 301, getattr(live, name), *numbers)
            self.both(live, model, name, *numbers)
        # All other errors come first.
        self.refused(BadDeed, 0, live.exchange, 1, 0)
        self.refused(BadDeed, 2, live.exchange, 0, 2)
        self.refused(BadDeed, 2, live.shift, 0, 3)
        self.refused(NoGame, (3, -1), live.play, 3)
        self.refused(NoGame, (3, -1), live.flip, 3)
        self.refused(BadGuard, 1, live.ease, 0, 0, 1)
        self.exactly(told_of(live), before)
        self.both(live, model, "undo")
        self.both(live, model, "redo")
        self.both(live, model, "redo")
        self.both(live, model, "undo")
        self.both(live, model, "play", 0)
        self.both(live, model, "mark")
        for _ in range(301):
            self.both(live, model, "undo")
        for _ in range(301):
            self.both(live, model, "redo")
        self.assertEqual(len(live.record()), 300)

    def test_three_hundred_and_a_shift(self):
        live = Live(ranked((0,) * 3), ((1, 1), S, S), loose=(1,))
        for k in range(300):
            live.shift(0, 1 + (k + 1) % 2)
        self.refused(TooMany, 301, live.shift, 0, 2)
        live.undo()
        live.play(0)
        self.refused(Played, 0, live.shift, 0, 1)

    def test_live_cups_do_not_touch_one_another(self):
        field, cup = ranked((0,) * 4), ((1, 2), (1, 3), S, S)
        one, two = Live(field, cup, loose=(1,)), Live(field, cup, loose=(1,))
        one.exchange(0, 1)
        old_field, old_cup, old_record = one.field(), one.cup(), one.record()
        self.exactly(told_of(two), told_of(Live(field, cup, loose=(1,))))
        one.ease(0, 5, -5)
        one.flip(0)
        one.play(1)
        one.mark()
        self.exactly((old_field.strengths, old_field.guards), ((0,) * 4, (0,) * 4))
        self.exactly((old_cup, old_record), (((1, 3), (1, 2), S, S), (("exchange", 0, 1),)))
        self.exactly((field.strengths, field.guards), ((0,) * 4, (0,) * 4))
        self.exactly(told_of(two), told_of(Live(field, cup, loose=(1,))))
        self.refused(NothingToUndo, 0, two.undo)
        self.assertEqual(len(one.record()), 5)
