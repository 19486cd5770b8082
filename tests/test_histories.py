import random

from boutstairs.deeds import offers
from boutstairs.done import done
from boutstairs.errors import BadCount, BadRow, TooMany
from boutstairs.fieldmakes import margined, plain, ranked
from boutstairs.histories import deeds_between, history_right, shortened
from boutstairs.runs import walked
from tests.helpers import BAD_CUPS, BAD_LOOSE, ODD, S, Case, cups_of, with_odd_parts

HUGE = 10 ** 300
C = ((1, 4), (1, 5), (1, 6), (1, 7), (2, 6), (2, 7), (3, 7), S)
E01, E45 = ("exchange", 0, 1), ("exchange", 4, 5)


def shortened_plainly(cups):
    """The history that is left, by taking out part after part."""
    left = list(cups)
    at = 0
    while at < len(left):
        last = max(i for i, cup in enumerate(left) if cup == left[at])
        del left[at + 1:last + 1]
        at += 1
    return tuple(left)


class Steps(Case):
    def test_all_pairs_of_cups(self):
        for field in (plain(4), ranked((0, 0, 0, 0)), margined((0, 1, 2, 3), 1)):
            cups = cups_of(field)
            for loose in ((), (1,), (2, 3)):
                for one in cups[::2]:
                    goes = {done(field, one, deed, loose=loose): deed for deed in offers(field, one, loose=loose)}
                    for two in cups[::3] + list(goes) + [one]:
                        self.step(field, one, two, loose, goes.get(two))

    def step(self, field, one, two, loose, deed):
        self.assertIs(history_right(field, (one, two), loose=loose), deed is not None)
        if deed is None:
            self.refused(BadRow, 0, deeds_between, field, (one, two), loose=loose)
            self.refused(BadRow, 0, shortened, field, (one, two), loose=loose)
        else:
            self.exactly(deeds_between(field, (one, two), loose=loose), (deed,))
            self.exactly(shortened(field, (one, two), loose=loose), (one, two))

    def test_wandering(self):
        draw = random.Random(7)
        wide = ((1, 3), (1, 4), (1, 5), S, S, S)
        for field in (plain(6), ranked((0,) * 5), margined((0, 1, 2, 3, 4), 2)):
            starts = [wide] if field.n == 6 else [cup for cup in cups_of(field) if len(set(cup)) > 3]
            for loose in ((), (1,), (1, 2, 3, 4)):
                for _ in range(40):
                    self.wander(field, draw.choice(starts), loose, draw)

    def wander(self, field, start, loose, draw):
        cups, deeds = [start], []
        for _ in range(draw.randrange(12)):
            found = offers(field, cups[-1], loose=loose)
            if found:
                deeds.append(draw.choice(found))
                cups.append(done(field, cups[-1], deeds[-1], loose=loose))
        cups = tuple(cups)
        self.exactly(deeds_between(field, cups, loose=loose), tuple(deeds))
        self.is_yes(history_right(field, cups, loose=loose))
        self.exactly(walked(field, start, tuple(deeds), loose=loose), cups[-1])
        left = shortened(field, cups, loose=loose)
        self.exactly(left, shortened_plainly(cups))
        self.assertEqual(len(set(left)), len(left))
        self.assertEqual((left[0], left[-1]), (cups[0], cups[-1]))
        self.is_yes(history_right(field, left, loose=loose))
        if len(cups) > 1:
            at = draw.randrange(1, len(cups))
            worse = cups[:at] + (cups[at - 1],) + cups[at:]
            self.is_no(history_right(field, worse, loose=loose))
            self.refused(BadRow, at - 1, deeds_between, field, worse, loose=loose)
            self.refused(BadRow, at - 1, shortened, field, worse, loose=loose)


class Lengths(Case):
    def test_one_cup(self):
        for field, cup in ((plain(8), C), (plain(1), (S,)), (plain(32), (S,) * 32)):
            self.gives(deeds_between, (field, (cup,)), ())
            self.gives(shortened, (field, (cup,)), (cup,))
            self.gives(history_right, (field, (cup,)), True)

    def test_two_hundred_cups(self):
        field = plain(8)
        other = walked(field, C, (E01,))
        long = (C, other) * 100
        self.exactly(self.soon(deeds_between, field, long), (E01,) * 199)
        self.exactly(self.soon(shortened, field, long), (C, other))
        self.exactly(self.soon(shortened, field, long[:-1]), (C,))
        self.exactly(shortened(field, long[:199] + (walked(field, C, (E45,)),)), (C, walked(field, C, (E45,))))
        self.is_yes(self.soon(history_right, field, long))
        for many in (201, 202, 1000):
            cups = ((C, other) * many)[:many]
            self.is_no(history_right(field, cups))
            for call in (deeds_between, shortened):
                self.refused(TooMany, many, call, field, cups)
                self.refused(TooMany, many, call, field, ((),) * many, loose=(0,))

    def test_great_histories_come_soon(self):
        field = ranked((0,) * 32)
        start = tuple((1, x + 16) for x in range(16)) + (S,) * 16
        draw = random.Random(2)
        cups = [start]
        while len(cups) < 200:
            x = draw.randrange(15)
            cups.append(done(field, cups[-1], ("exchange", x, x + 1)))
        self.assertEqual(len(self.soon(deeds_between, field, tuple(cups))), 199)
        self.exactly(self.soon(shortened, field, tuple(cups)), shortened_plainly(cups))


class Errors(Case):
    def test_in_their_order(self):
        for call in (deeds_between, shortened):
            self.refused(BadCount, 0, call, plain(8), (), loose=(0,))
            good = (S,) * 4
            for error, what, pairs in BAD_CUPS:
                self.refused(error, what, call, plain(4), (pairs,), loose=(0,))
                self.refused(error, what, call, plain(4), (good, good, pairs, ()), loose=(0,))
            for what, loose in BAD_LOOSE:
                self.assertRaises(TypeError, call, plain(4), (good,), loose)
            self.asks_loose(call, plain(4), (good, good))
            self.refused(BadRow, 0, call, plain(4), (good, good, good))

    def test_judge(self):
        self.asks_loose(history_right, plain(8), None)
        field = plain(8)
        cups = (C, walked(field, C, (E01,)), walked(field, C, (E01, E45)))
        self.is_yes(history_right(field, cups))
        for odd in with_odd_parts(cups):
            # A history begins and ends where it likes, so the cups at the ends may be left out.
            self.assertIs(history_right(field, odd), odd in (cups[1:], cups[:-1]))
        for odd in ODD:
            self.is_no(history_right(field, odd))
            self.is_no(history_right(field, (C, odd)))
            self.is_no(history_right(field, (odd, C)))
        self.is_no(history_right(field, ()))
        self.is_no(history_right(field, (C, C)))
        self.is_no(history_right(field, (cups[0], cups[2])))
        self.is_no(history_right(field, ((),) * 10000))
        self.is_no(history_right(plain(1), (S,)))
        self.is_yes(history_right(plain(1), ((S,),)))
