import random

from boutstairs.deeds import offers
from boutstairs.done import back_of, done
from boutstairs.errors import BadLoose, BadRow, TooMany
from boutstairs.fieldmakes import margined, plain, ranked
from boutstairs.judged import run_right
from boutstairs.runs import turned_run, walked
from tests.helpers import ODD, S, Case, cups_of, with_odd_parts
from tests.test_deeds import NO_DEEDS

HUGE = 10 ** 300
C = ((1, 4), (1, 5), (1, 6), (1, 7), (2, 6), (2, 7), (3, 7), S)
E01, E02, E45 = ("exchange", 0, 1), ("exchange", 0, 2), ("exchange", 4, 5)


class Runs(Case):
    def test_the_cup_of_the_document(self):
        field = plain(8)
        two = ((1, 5), (1, 6), (1, 4)) + C[3:]
        self.gives(walked, (field, C, (E02, E01)), two)
        self.gives(turned_run, (field, C, (E02, E01)), (E01, E02))
        self.gives(walked, (field, two, (E01, E02)), C)
        self.gives(run_right, (field, C, (E02, E01), two), True)
        self.gives(run_right, (field, C, (E01, E02), two), False)

    def test_the_empty_run(self):
        self.gives(walked, (plain(8), C, ()), C)
        self.gives(turned_run, (plain(8), C, ()), ())
        self.gives(run_right, (plain(8), C, (), C), True)
        self.gives(run_right, (plain(1), (S,), (), (S,)), True)
        self.gives(run_right, (plain(2), (S, S), (), ((1, 1), S)), False)

    def test_shifts_turned(self):
        field, cup = plain(4), ((1, 1), S, S, S)
        run = (("shift", 0, 3), ("shift", 0, 2))
        self.exactly(walked(field, cup, run, loose=(1,)), ((1, 2), S, S, S))
        self.exactly(turned_run(field, cup, run, loose=(1,)), (("shift", 0, 3), ("shift", 0, 1)))
        self.is_yes(run_right(field, cup, run, ((1, 2), S, S, S), loose=(1,)))
        self.is_no(run_right(field, cup, run, ((1, 2), S, S, S)))
        self.is_no(run_right(field, cup, run, ((1, 3), S, S, S), loose=(1,)))
        self.refused(BadRow, 0, walked, field, cup, run)
        self.refused(BadRow, 0, turned_run, field, cup, run, loose=(2,))

    def test_wandering(self):
        draw = random.Random(9)
        for field in (plain(5), ranked((0,) * 5), margined((0, 1, 2, 3, 4), 2)):
            cups = cups_of(field)
            for loose in ((), (1,), (2,), (1, 2, 3, 4)):
                for _ in range(60):
                    self.wander(field, draw.choice(cups), loose, draw)

    def wander(self, field, cup, loose, draw):
        run, back, now = [], [], cup
        for _ in range(draw.randrange(8)):
            found = offers(field, now, loose=loose)
            if found:
                deed = draw.choice(found)
                run.append(deed)
                back.insert(0, back_of(field, now, deed, loose=loose))
                now = done(field, now, deed, loose=loose)
        run, back = tuple(run), tuple(back)
        self.exactly(walked(field, cup, run, loose=loose), now)
        self.exactly(turned_run(field, cup, run, loose=loose), back)
        self.exactly(walked(field, now, back, loose=loose), cup)
        self.exactly(turned_run(field, now, back, loose=loose), run)
        self.is_yes(run_right(field, cup, run, now, loose=loose))
        self.is_yes(run_right(field, now, back, cup, loose=loose))
        self.assertIs(run_right(field, cup, run[:-1], now, loose=loose), not run)
        if run:
            bad = draw.randrange(len(run))
            worse = run[:bad] + (("shift", 0, 0),) + run[bad:] + ((),)
            self.refused(BadRow, bad, walked, field, cup, worse, loose=loose)
            self.refused(BadRow, bad, turned_run, field, cup, worse, loose=loose)
            self.is_no(run_right(field, cup, worse, now, loose=loose))

    def test_length(self):
        field = plain(8)
        long = (E01, E45) * 500
        self.exactly(self.soon(walked, field, C, long), C)
        self.exactly(self.soon(turned_run, field, C, long), long[::-1])
        self.is_yes(self.soon(run_right, field, C, long, C))
        self.is_no(run_right(field, C, long + (E01, E01), C))
        self.is_no(run_right(field, C, long + (E01,), walked(field, C, (E01,))))
        self.is_yes(run_right(field, C, long[:-1] + (E01,), walked(field, C, (E45, E01))))
        for many in (1001, 1002, 5000):
            self.refused(TooMany, many, walked, field, C, ((),) * many, loose=(0,))
            self.refused(TooMany, many, turned_run, field, C, (E01,) * many, loose=(0,))
            self.is_no(run_right(field, C, ((),) * many, C))
        halves = tuple((1, x + 16) for x in range(16)) + (S,) * 16
        wide = (("exchange", 0, 15),) * 1000
        self.assertEqual(self.soon(walked, plain(32), halves, wide, loose=(1,)), halves)

    def test_errors_in_their_order(self):
        for call in (walked, turned_run):
            self.asks_cup(call, ((),) * 1001, loose=(0,))
            self.asks_loose(call, plain(8), C, ((), E01))
            self.refused(BadLoose, 0, call, plain(8), C, (E01, ()), loose=(0,))
            for deed in NO_DEEDS + (("exchange", 0, 8), ("shift", -1, 0), ("exchange", 0, 4), ("shift", 0, 5)):
                self.refused(BadRow, 0, call, plain(8), C, (deed,))
                self.refused(BadRow, 2, call, plain(8), C, (E01, E02, deed, deed))
            self.refused(BadRow, 999, call, plain(8), C, (E01,) * 999 + ((),))

    def test_deeds_are_asked_when_they_come(self):
        field, cup = plain(5), ((1, 2), (1, 3), S, S, S)
        run = (("shift", 1, 4), ("shift", 0, 3))
        self.exactly(walked(field, cup, run, loose=(1,)), ((1, 3), (1, 4), S, S, S))
        self.refused(BadRow, 0, walked, field, cup, run[::-1], loose=(1,))
        self.is_no(run_right(field, cup, run[::-1], ((1, 3), (1, 4), S, S, S), loose=(1,)))
        # 4 rests in the cup, but not any more behind the first deed.
        run = (("shift", 0, 4), ("shift", 1, 4))
        self.refused(BadRow, 1, walked, field, cup, run, loose=(1,))
        self.refused(BadRow, 1, turned_run, field, cup, run, loose=(1,))


class Judge(Case):
    def test_other_arguments_are_asked_before(self):
        self.asks_cup(run_right, None, None, loose=(0,))
        self.asks_loose(run_right, plain(8), C, None, None)
        self.asks_loose(run_right, plain(8), C, (), C)

    def test_odd_runs(self):
        field, run = plain(8), (E02, E01)
        goal = walked(field, C, run)
        self.is_yes(run_right(field, C, run, goal))
        for odd in with_odd_parts(run):
            self.is_no(run_right(field, C, odd, goal))
        for odd in ODD:
            self.assertIs(run_right(field, C, odd, C), odd == ())
            self.is_no(run_right(field, C, (E01, odd, E01), C))
        for deed in NO_DEEDS:
            self.is_no(run_right(field, C, (deed,), C))
        self.is_no(run_right(field, C, E01, C))
        self.is_no(run_right(field, C, "exchange", C))

    def test_odd_goals(self):
        field, run = plain(8), (E02, E01)
        goal = walked(field, C, run)
        for odd in with_odd_parts(goal):
            self.is_no(run_right(field, C, run, odd))
            self.is_no(run_right(field, C, (), odd))
        for one in ODD:
            for two in ODD:
                self.is_no(run_right(field, C, one, two))
