import itertools
import random

from boutstairs.errors import BadRecord, BadRounds, BadSize
from boutstairs.fieldmakes import margined, plain, ranked
from boutstairs.records import is_records, made_records, records
from tests.helpers import ODD, S, Case, cups_of, with_odd_parts

HUGE = 10 ** 300


def fault(rows):
    """The error and its `what` for these rows, read off the document point by point; None if there is none."""
    if not 1 <= len(rows) <= 32:
        return BadSize, len(rows)
    for x, row in enumerate(rows):
        for i, told in enumerate(row):
            if told not in (1, 0, -1) or -1 in row[:i]:
                return BadRecord, (x, i)
    longest = max(len(row) for row in rows)
    for x, row in enumerate(rows):
        if -1 not in row and len(row) < longest:
            return BadRecord, (x, -1)
    for r in range(1, longest + 1):
        letters = [row[r - 1] for row in rows if len(row) >= r]
        if -1 not in letters or letters.count(1) != letters.count(-1):
            return BadRounds, r
    return None


class Records(Case):
    def test_records_of_the_cup_of_the_document(self):
        cup = ((1, 4), (1, 5), (1, 6), (1, 7), (2, 6), (2, 7), (3, 7), S)
        lost = ((-1,),) * 4
        self.gives(records, (plain(8), cup), lost + ((1, -1), (1, -1), (1, 1, -1), (1, 1, 1)))
        self.gives(records, (plain(3), ((2, 2), (1, 2), S)), ((0, -1), (-1,), (1, 1)))
        self.gives(records, (plain(3), (S, (1, 2), S)), ((0,), (-1,), (1,)))
        self.gives(records, (plain(2), (S, S)), ((), ()))
        self.gives(records, (plain(1), (S,)), ((),))

    def test_records_of_all_cups(self):
        for field in (plain(4), ranked((0, 0, 0, 0)), margined((0, 1, 2, 3), 1)):
            for cup in cups_of(field):
                last = max(r for r, _ in cup)
                expected = []
                for x, (lost, _) in enumerate(cup):
                    row = [1 if (r, x) in cup else 0 for r in range(1, (lost or last + 1))]
                    expected.append(tuple(row + [-1] * (lost > 0)))
                self.gives(records, (field, cup), tuple(expected))
                self.gives(made_records, (tuple(expected),), tuple(expected))

    def test_records_refuse_no_cup(self):
        self.asks_cup(records)


class Made(Case):
    def agree(self, rows):
        told = fault(rows)
        if told is None:
            self.gives(made_records, (rows,), rows)
            self.is_yes(is_records(rows))
        else:
            self.refused(told[0], told[1], made_records, rows)
            self.is_no(is_records(rows))

    def test_small_rows(self):
        each = [row for many in range(4) for row in itertools.product((1, 0, -1), repeat=many)]
        each.extend([(2,), (1, -2), (HUGE, -1), (0, 0, -HUGE)])
        for many in range(1, 3):
            for rows in itertools.product(each, repeat=many):
                self.agree(rows)
        draw = random.Random(5)
        for _ in range(4000):
            self.agree(tuple(draw.choice(each) for _ in range(draw.randrange(3, 6))))

    def test_rows_of_cups_with_a_change(self):
        draw = random.Random(6)
        cups = cups_of(ranked((0,) * 5))
        for _ in range(2000):
            rows = list(records(ranked((0,) * 5), draw.choice(cups)))
            x = draw.randrange(5)
            rows[x] = draw.choice((rows[x][:-1], rows[x] + (draw.randrange(-2, 3),), rows[draw.randrange(5)]))
            self.agree(tuple(rows))

    def test_edges(self):
        self.gives(made_records, (((),),), ((),))
        self.gives(made_records, (((),) * 32,), ((),) * 32)
        self.refused(BadSize, 0, made_records, ())
        self.refused(BadSize, 33, made_records, ((9,),) * 33)
        half = ((1,),) * 16 + ((-1,),) * 16
        self.gives(made_records, (half,), half)

    def test_faults_in_their_order(self):
        # Letters of all rows, then rows that end too early, then rounds.
        self.refused(BadRecord, (0, 1), made_records, ((-1, 1), (7,)))
        self.refused(BadRecord, (0, 1), made_records, ((-1, 9), (7,)))
        self.refused(BadRecord, (2, 0), made_records, ((0,), (0, 0), (7,)))
        self.refused(BadRecord, (1, 2), made_records, ((0,), (1, -1, -1, 5)))
        self.refused(BadRecord, (0, -1), made_records, ((0,), (0, 0), (0,)))
        self.refused(BadRecord, (2, -1), made_records, ((-1,), (0, 0), ()))
        self.refused(BadRounds, 1, made_records, ((0, 1), (0, -1)))
        self.refused(BadRounds, 2, made_records, ((1, 1), (-1,), (0, 0)))
        self.refused(BadRounds, 1, made_records, ((-1,), (-1,), (1,)))
        self.refused(BadRounds, 1, made_records, ((1,), (-1,), (1,)))
        self.refused(BadRounds, 1, made_records, ((-1,),))
        self.soon(self.refused, BadRounds, 1, made_records, ((0,) * 9000,))

    def test_judge_of_odd_things(self):
        for good in (((1, 1), (-1,), (0, -1)), ((), ())):
            self.is_yes(is_records(good))
            for odd in with_odd_parts(good):
                if odd not in (((),), ((), (), ())):
                    self.is_no(is_records(odd))
        for odd in ODD:
            self.assertIs(is_records(odd), odd in (((),), ))
        self.is_no(is_records("a"))
        self.is_no(is_records(("",)))
        self.is_no(is_records((((),),)))
