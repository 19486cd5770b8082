import itertools
import random

from boutstairs.errors import BadExit, BadRecord, BadRounds, BadSize, Unlike
from boutstairs.fieldmakes import margined, plain, ranked
from boutstairs.fields import made_field
from boutstairs.fits import short_exits, short_records, short_right
from boutstairs.records import is_records, records
from tests.helpers import ODD, Case, cups_of, fillings, with_odd_parts
from tests.listings import all_exits, some_cup, some_field, through

HUGE = 10 ** 300
FIELDS = (
    plain(1), plain(2), plain(4), ranked((0, 0, 0)), margined((0, 1, 2, 3), 1), margined((0, 1, 2, 3), -1),
    made_field((1, 3, 1, 3), (1, 3, 1, 0)), made_field((0, 2, 2, 1), (2, 2, 1, 0)))


def losing(exits, r):
    return tuple(x for x, last in enumerate(exits) if last == r)


def told_short(field, exits, halls):
    """The least round whose losers cannot all have beaters, and the first in the row who finds too few."""
    for r, hall in enumerate(halls, start=1):
        guards = tuple(field.guards[x] for x in losing(exits, r))
        if not fillings(guards, tuple(field.strengths[y] for y in hall)):
            for place, x in enumerate(sorted(losing(exits, r), key=lambda side: (-field.guards[side], side))):
                if len([y for y in hall if field.strengths[y] >= field.guards[x]]) - place < 1:
                    return (r, x)
    return None


def halls_of(exits):
    return tuple(through(exits, r) for r in range(1, max(exits) + 1))


def told_right(field, exits, halls, r, x):
    guard = field.guards[x]
    needing = [z for z in losing(exits, r) if field.guards[z] >= guard]
    return exits[x] == r and len(needing) > len([y for y in halls[r - 1] if field.strengths[y] >= guard])


class Exits(Case):
    def test_all_tables_of_exits(self):
        for field in FIELDS:
            there = {all_exits(cup) for cup in cups_of(field)}
            for exits in itertools.product(range(-1, field.n + 2), repeat=field.n):
                if min(exits) < 0:
                    self.refused(BadExit, [r < 0 for r in exits].index(True), short_exits, field, exits)
                    continue
                missing = [r for r in range(1, max(exits)) if r not in exits]
                if missing:
                    self.refused(BadRounds, missing[0], short_exits, field, exits)
                    continue
                halls = halls_of(exits)
                found = short_exits(field, exits)
                self.exactly(found, told_short(field, exits, halls))
                self.assertEqual(found is None, exits in there)
                if found is not None:
                    self.is_yes(short_right(field, exits, halls, *found))

    def test_examples(self):
        self.gives(short_exits, (plain(4), (0, 1, 1, 2)), (1, 1))
        self.gives(short_exits, (plain(4), (0, 2, 2, 1)), (1, 3))
        self.gives(short_exits, (plain(4), (1, 1, 2, 0)), None)

    def test_edges(self):
        self.gives(short_exits, (plain(1), (0,)), None)
        self.gives(short_exits, (plain(1), (1,)), (1, 0))
        self.gives(short_exits, (plain(3), (1, 2, 3)), (3, 2))
        self.gives(short_exits, (plain(32), tuple(range(1, 32)) + (0,)), None)
        self.gives(short_exits, (plain(32), (0,) + tuple(range(1, 32))), (31, 31))
        self.gives(short_exits, (plain(32), (1,) * 16 + (0,) * 16), None)
        self.assertEqual(self.soon(short_exits, plain(32), (0,) * 16 + (1,) * 16), (1, 31))
        self.refused(BadRounds, 1, short_exits, plain(1), (HUGE,))
        self.refused(BadRounds, 3, short_exits, plain(3), (1, 2, HUGE))
        self.refused(BadRounds, 32, short_exits, plain(32), tuple(range(1, 32)) + (HUGE,))

    def test_errors(self):
        self.refused(Unlike, 0, short_exits, plain(2), ())
        self.refused(Unlike, 3, short_exits, plain(2), (-1, 9, 9))
        self.refused(BadExit, 1, short_exits, plain(3), (7, -1, -HUGE))


class Records(Case):
    def test_all_tables_of_records(self):
        letters = [()] + [row for many in (1, 2) for row in itertools.product((1, 0, -1), repeat=many)]
        for field in (plain(3), ranked((0, 0, 0)), margined((0, 1, 2), 1), made_field((0, 2, 2), (2, 2, 1))):
            there = {records(field, cup) for cup in cups_of(field)}
            for rows in itertools.product(letters, repeat=3):
                if is_records(rows):
                    self.told(field, rows, there)

    def test_tables_of_many_sides(self):
        draw = random.Random(60)
        field = ranked((0, 0, 1, 1, 2))
        cups = cups_of(field)
        there = {records(field, cup) for cup in cups}
        for cup in draw.sample(cups, 300):
            rows = records(ranked((0,) * 5), cup)
            self.told(field, tuple(draw.sample(rows, 5)), there)

    def told(self, field, rows, there):
        exits = tuple(len(row) if row and row[-1] == -1 else 0 for row in rows)
        halls = tuple(tuple(y for y, row in enumerate(rows) if i < len(row) and row[i] == 1)
                      for i in range(max(len(row) for row in rows)))
        found = short_records(field, rows)
        self.exactly(found, told_short(field, exits, halls))
        self.assertEqual(found is None, rows in there)
        if found is not None:
            self.is_yes(short_right(field, exits, halls, *found))

    def test_edges(self):
        self.gives(short_records, (plain(1), ((),)), None)
        self.gives(short_records, (plain(32), ((),) * 32), None)
        self.gives(short_records, (plain(2), ((1,), (-1,))), (1, 1))
        self.gives(short_records, (ranked((3, 3)), ((1,), (-1,))), None)
        self.assertEqual(self.soon(short_records, plain(32), ((1,),) * 16 + ((-1,),) * 16), (1, 31))

    def test_errors(self):
        self.refused(BadSize, 0, short_records, plain(3), ())
        self.refused(BadSize, 33, short_records, plain(3), ((),) * 33)
        self.refused(BadRecord, (1, 0), short_records, plain(3), ((1,), (2,)))
        self.refused(BadRecord, (1, -1), short_records, plain(3), ((-1,), ()))
        self.refused(BadRounds, 1, short_records, plain(3), ((-1,), (0,)))
        self.refused(Unlike, 2, short_records, plain(3), ((-1,), (1,)))
        self.refused(Unlike, 4, short_records, plain(3), ((-1,), (1,), (0,), (0,)))


class Right(Case):
    def test_all_halls_of_small_fields(self):
        draw = random.Random(61)
        for field in FIELDS:
            for _ in range(60):
                exits = tuple(draw.randrange(3) for _ in range(field.n))
                if 1 not in exits and max(exits) > 0:
                    continue
                every = [tuple(y for y in hall if draw.random() < 0.7) for hall in halls_of(exits)]
                halls = tuple(every)
                for r in range(-1, 4):
                    for x in range(-1, field.n + 1):
                        right = 1 <= r <= len(halls) and 0 <= x < field.n and told_right(field, exits, halls, r, x)
                        self.assertIs(short_right(field, exits, halls, r, x), right)

    def test_right_means_no_cup(self):
        draw = random.Random(62)
        for _ in range(200):
            field = some_field(draw.randrange(2, 8), draw)
            cup = some_cup(field, draw)
            exits = all_exits(cup)
            for r in range(1, max(exits) + 1):
                for x in range(field.n):
                    self.is_no(short_right(field, exits, halls_of(exits), r, x))

    def test_bad_things(self):
        field, exits, halls = plain(4), (0, 1, 1, 2), ((0, 3), (0,))
        self.is_yes(short_right(field, exits, halls, 1, 1))
        self.is_yes(short_right(field, exits, halls, 2, 3))
        self.is_no(short_right(field, exits, halls, 1, 3))
        for odd in with_odd_parts(exits):
            self.is_no(short_right(field, odd, halls, 1, 1))
        for odd in with_odd_parts(halls):
            if odd != ((0, 3), ()) and odd != ((3,), (0,)) and odd != ((0,), (0,)) and odd != ((), (0,)):
                self.is_no(short_right(field, exits, odd, 1, 1))
        for odd in ODD:
            self.is_no(short_right(field, exits, halls, odd, 1))
            self.is_no(short_right(field, exits, halls, 1, odd))
            self.is_no(short_right(field, odd, odd, odd, odd))
        for bad in ((0, 3, 3, 2), (0, 1, 1), (0, 1, 1, 2, 0), (0, 1, 1, -1), (0, 1, 1, HUGE)):
            self.is_no(short_right(field, bad, halls, 1, 1))
        for bad in ((), ((0, 3),), ((0, 3), (0,), ()), ((3, 0), (0,)), ((0, 1), (0,)), ((0, 0), (0,)), ((0, 4), (0,)),
                    ((-1, 0), (0,)), ((0, 3), (3,))):
            self.is_no(short_right(field, exits, bad, 1, 1))
        self.is_yes(short_right(field, exits, ((3,), ()), 1, 1))
        self.is_yes(short_right(field, exits, ((), ()), 1, 2))

    def test_no_rounds(self):
        self.is_no(short_right(plain(1), (0,), (), 0, 0))
        self.is_no(short_right(plain(1), (0,), (), 1, 0))
        self.is_yes(short_right(plain(1), (1,), ((),), 1, 0))
        self.is_no(short_right(plain(2), (1, HUGE), ((), ()), 1, 0))
