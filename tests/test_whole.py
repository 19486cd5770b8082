"""What holds over the whole program ([0.4]), for all cups of small fields."""

import itertools

from boutstairs.cups import is_cup
from boutstairs.cuptext import cup_from, cup_text
from boutstairs.deeds import offers
from boutstairs.done import done
from boutstairs.errors import BadExit, BadRounds, NotSame, TooFew
from boutstairs.fieldmakes import margined, plain, ranked
from boutstairs.fields import made_field
from boutstairs.fieldtext import field_from, field_text
from boutstairs.fits import short_exits, short_records, short_right
from boutstairs.judged import run_right
from boutstairs.papers import paper, paper_right
from boutstairs.papertext import paper_from, paper_text
from boutstairs.plantext import plan_from, plan_text, word_from, word_text
from boutstairs.cuplooks import plan_of
from boutstairs.pools import choices, pool_of, pool_of_exits, pool_of_records, size
from boutstairs.pooltext import pool_from, pool_text
from boutstairs.records import is_records, records
from boutstairs.recordtext import records_from, records_text
from boutstairs.rule import fewest, run_between
from boutstairs.runtext import run_from, run_text
from boutstairs.spreads import balls
from boutstairs.ways import same
from boutstairs.words import word_of
from tests.helpers import Case, cups_of
from tests.listings import all_exits, listed, may, picture_of, through

FIELDS = (
    plain(1), plain(2), ranked((5, 5)), plain(3), ranked((0, 0, 0)), made_field((0, 2, 1), (1, 1, 9)),
    made_field((1, 1, 0, 2), (1, 0, 2, 1)), plain(4), margined((0, 1, 2, 3), 1))
LOOSE = ((), (1,), (2,), (1, 2, 3))


def reached(field, cup, loose):
    """For each cup that comes of this one by deeds, how few of them do."""
    found, queue = {cup: 0}, [cup]
    for now in queue:
        for deed in offers(field, now, loose=loose):
            after = done(field, now, deed, loose=loose)
            if after not in found:
                found[after] = found[now] + 1
                queue.append(after)
    return found


def papers_of(n):
    """All tuples with the form of a paper on cups of n sides."""
    found = [("exit", x, r, s) for x in range(n) for r in range(n) for s in range(n)]
    return found + [("rest", r, y) for r in range(n + 1) for y in range(n)]


class DeedsAndPapers(Case):
    def test_same_cups_and_no_others_come_of_one_another(self):
        for field in FIELDS:
            cups = cups_of(field)
            for loose in LOOSE:
                for at, one in enumerate(cups):
                    found = reached(field, one, loose)
                    for two in cups if field.n < 4 else cups[at % 5::5] + list(found):
                        self.pair(field, one, two, loose, found.get(two))

    def pair(self, field, one, two, loose, steps):
        self.assertIs(same(field, one, two, loose=loose), steps is not None)
        told = paper(field, one, two, loose=loose)
        if steps is None:
            self.is_yes(paper_right(field, one, two, told, loose=loose))
            self.exactly(paper_from(paper_text(told)), told)
            self.refused(NotSame, 0, run_between, field, one, two, loose=loose)
        else:
            run = run_between(field, one, two, loose=loose)
            self.is_yes(run_right(field, one, run, two, loose=loose))
            self.assertEqual((len(run), fewest(field, one, two, loose=loose)), (steps, steps))
            self.exactly(run_from(run_text(run)), run)
            self.assertIsNone(told)
            if field.n < 4:
                right = [each for each in papers_of(field.n) if paper_right(field, one, two, each, loose=loose)]
                self.assertEqual(right, [])


class Beaters(Case):
    def test_told_numbers_of_beaters_are_left(self):
        for field in FIELDS:
            for cup in cups_of(field):
                for loose in LOOSE:
                    pool = pool_of(field, cup, loose=loose)
                    for r in range(1, max(all_exits(cup)) + 1):
                        for other in listed(pool):
                            self.row(pool, r, other)

    def row(self, pool, r, cup):
        taken = []
        for x, many in choices(pool, r):
            left = [y for y in pool.halls[r - 1] if may(pool.field, y, x) and y not in taken]
            self.assertEqual(len(left), many)
            taken.append(cup[x][1])

    def test_equally_many_cups_are_so_far_away(self):
        for field in FIELDS:
            for cup in cups_of(field)[::2]:
                for pool in (pool_of(field, cup, loose=(1, 2)), pool_of_exits(field, all_exits(cup))):
                    cups = listed(pool)
                    for one in cups:
                        far = [fewest(field, one, two, loose=(1, 2, 3)) for two in cups]
                        self.exactly(balls(pool), tuple(far.count(k) for k in range(max(far) + 1)))


class Tables(Case):
    def test_exits(self):
        for field in FIELDS:
            there = {all_exits(cup) for cup in cups_of(field)}
            for exits in itertools.product(range(field.n + 1), repeat=field.n):
                if set(exits) | {0} == set(range(max(exits) + 1)):
                    self.table(field, exits, exits in there, short_exits, pool_of_exits, exits)
                else:
                    self.assertNotIn(exits, there)
                    self.assertRaises((BadRounds, BadExit), short_exits, field, exits)

    def table(self, field, rows, fits, short, pool_made, exits):
        found = short(field, rows)
        self.assertEqual(found is None, fits)
        if found is None:
            self.assertGreater(size(pool_made(field, rows)), 0)
        else:
            self.refused(TooFew, found, pool_made, field, rows)
            self.exactly(paper_from(paper_text(("few",) + found)), ("few",) + found)
            if short is short_exits:
                halls = tuple(through(exits, r) for r in range(1, max(exits) + 1))
                self.is_yes(short_right(field, exits, halls, *found))

    def test_records(self):
        for field in FIELDS:
            there = {records(field, cup) for cup in cups_of(field)}
            letters = [row for many in range(field.n) for row in itertools.product((1, 0, -1), repeat=many)
                       if -1 not in row[:-1]]
            for rows in itertools.product(letters, repeat=field.n) if field.n < 4 else there:
                if is_records(rows):
                    exits = tuple(len(row) if -1 in row else 0 for row in rows)
                    self.table(field, rows, rows in there, short_records, pool_of_records, exits)
                    self.exactly(records_from(records_text(rows)), rows)
                else:
                    self.assertNotIn(rows, there)


class Texts(Case):
    def test_all_that_comes_of_cups(self):
        for field in FIELDS:
            text = field_text(field)
            self.exactly(field_text(field_from(text)), text)
            for cup in cups_of(field):
                self.back(cup_text(field, cup), cup, lambda told: cup_from(field, told))
                self.is_yes(is_cup(field, cup))
                self.back(records_text(records(field, cup)), records(field, cup), records_from)
                plan, word = plan_of(field, cup), word_of(all_exits(cup))
                self.back(plan_text(field.n, plan), (field.n, plan), plan_from)
                self.back(word_text(word), word, word_from)
                for loose in LOOSE:
                    pool = pool_of(field, cup, loose=loose)
                    found = pool_from(field, pool_text(pool))
                    self.exactly((picture_of(found), pool_text(found)), (picture_of(pool), pool_text(pool)))
                    for deed in offers(field, cup, loose=loose):
                        self.back(run_text((deed,)), (deed,), run_from)

    def back(self, text, value, read):
        self.assertIs(type(text), str)
        self.exactly(read(text), value)
