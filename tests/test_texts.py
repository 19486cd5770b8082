"""The texts of [41]: fields, cups, tables, records, runs and pools."""

import random

from boutstairs.cups import made_cup
from boutstairs.cuptext import cup_from, cup_text
from boutstairs.errors import BadPrice, BadRecord, BadRounds, BadRow, BadSize, BadText, TooMany
from boutstairs.fieldmakes import margined, plain, ranked
from boutstairs.fields import Field, made_field
from boutstairs.fieldtext import field_from, field_text
from boutstairs.narrowing import fixed
from boutstairs.pools import Pool, pool_of, pool_of_exits
from boutstairs.pooltext import pool_from, pool_text
from boutstairs.records import records
from boutstairs.recordtext import records_from, records_text
from boutstairs.rule import run_between
from boutstairs.runtext import run_from, run_text
from boutstairs.tabletext import table_from, table_text
from tests import test_cups, test_records
from tests.helpers import BAD_CUPS, ODD, S, cups_of
from tests.listings import listed, picture_of, some_cup, some_field, some_pools, through
from tests.spoiling import TextCase, behind, numbers
from tests.test_deeds import NO_DEEDS

HUGE = 10 ** 300
MOST = 10 ** 9
C = ((1, 4), (1, 5), (1, 6), (1, 7), (2, 6), (2, 7), (3, 7), S)


def body(rows, head, sizes, read):
    """Reads a first row with a number and as many rows: ("bad", index), or the number and what was read."""
    told = behind(rows[0], head, 32)
    if told is None or len(told) != 1 or told[0] not in sizes:
        return "bad", 0
    found = []
    for index in range(1, told[0] + 1):
        value = read(rows[index], index - 1, told[0]) if index < len(rows) else None
        if value is None:
            return "bad", index
        found.append(value)
    if len(rows) > told[0] + 1:
        return "bad", told[0] + 1
    return told[0], tuple(found)


def of_length(found, many):
    return found if found is not None and len(found) == many else None


def own_field(text):
    kind, value = body(
        text.split("\n"), "field", range(1, 33), lambda row, x, n: of_length(numbers(row, MOST, -MOST), 2))
    if kind == "bad":
        return kind, value
    return "good", (kind, tuple(s for s, _ in value), tuple(g for _, g in value))


def own_table(text):
    kind, value = body(text.split("\n"), "table", range(1, 33), lambda row, x, n: of_length(numbers(row, MOST), n))
    return (kind, value) if kind == "bad" else ("good", value)


def own_pair(row, x, n):
    if row == "-":
        return S
    pair = of_length(numbers(row, 31), 2)
    return pair if pair is not None and pair[0] > 0 and pair[1] < n and pair[1] != x else None


def own_cup(field):
    def read(text):
        rows = text.split("\n")
        kind, value = body(rows, "cup", (field.n,), own_pair)
        if kind == "bad":
            return kind, value
        return ("good", value) if test_cups.fault(field, value) is None else ("bad", len(rows))
    return read


def own_record(row, x, n):
    if row == ".":
        return ()
    letters = {"w": 1, "r": 0, "l": -1}
    return tuple(letters[letter] for letter in row) if row and set(row) <= set(letters) else None


def own_records(text):
    rows = text.split("\n")
    kind, value = body(rows, "records", range(1, 33), own_record)
    if kind == "bad":
        return kind, value
    return ("good", value) if test_records.fault(value) is None else ("bad", len(rows))


def own_run(text):
    if text == "":
        return "good", ()
    found = []
    for index, row in enumerate(text.split("\n")):
        exchange, shift = of_length(behind(row, "exchange", 31), 2), of_length(behind(row, "shift", 31), 2)
        if shift is not None:
            found.append(("shift",) + shift)
        elif exchange is not None and exchange[0] < exchange[1]:
            found.append(("exchange",) + exchange)
        else:
            return "bad", index
    return "good", tuple(found)


def own_pool(field):
    def read(text):
        rows = text.split("\n")
        if rows[0] != "pool " + str(field.n):
            return "bad", 0
        exits = of_length(behind(rows[1], "exits", 31), field.n) if len(rows) > 1 else None
        if exits is None:
            return "bad", 1
        halls, told = [], []
        for index in range(2, max(len(rows), 2 + max(exits))):
            row = rows[index] if index < len(rows) else ""
            if index < 2 + max(exits):
                hall = behind(row, "hall", 31)
                sides = through(exits, index - 1)
                if not hall or list(hall) != sorted(set(hall)) or not set(hall) <= set(sides):
                    return "bad", index
                halls.append(hall)
            else:
                game = of_length(behind(row, "told", 31), 2)
                if game is None or not game[0] < field.n or exits[game[0]] == 0:
                    return "bad", index
                if game[1] not in halls[exits[game[0]] - 1] or told and game <= told[-1]:
                    return "bad", index
                told.append(game)
        losing = [x for x, _ in told]
        pool = Pool(field, exits, tuple(halls), tuple(told))
        good = set(range(1, max(exits) + 1)) <= set(exits) and len(set(losing)) == len(losing) and listed(pool)
        return ("good", picture_of(pool)) if good else ("bad", len(rows))
    return read


def seen(field):
    return field.n, field.strengths, field.guards


class Fields(TextCase):
    def read(self, text):
        found = field_from(text)
        self.assertIs(type(found), Field)
        return seen(found)

    def test_sign_by_sign(self):
        self.gives(field_text, (plain(1),), "field 1\n0 0")
        self.gives(field_text, (made_field((MOST, -MOST, 0), (-1, MOST, -MOST)),),
                   "field 3\n1000000000 -1\n-1000000000 1000000000\n0 -1000000000")
        self.gives(field_text, (plain(32),), "field 32\n" + "\n".join(f"{x} {x}" for x in range(32)))

    def test_there_and_back(self):
        draw = random.Random(1)
        fields = [made_field(tuple(draw.randrange(-MOST, MOST + 1) for _ in range(n)), (draw.choice((0, -3, MOST)),) * n)
                  for n in range(1, 33)]
        for field in fields:
            text = field_text(field)
            self.exactly(self.read(text), seen(field))
            self.exactly(field_text(field_from(text)), text)

    def test_spoilt(self):
        for text in ("field 1\n0 0", "field 2\n10 -3\n-1000000000 1000000000", "field 3\n1 0\n7 7\n-2 -9"):
            self.reads_spoilt(self.read, own_field, text)
        self.reads_spoilt(self.read, own_field, field_text(margined(tuple(range(32)), 3)), 29)

    def test_named_texts(self):
        for index, text in (
                (0, ""), (0, "field"), (0, "field 0"), (0, "field 33"), (0, "field 01\n0 0"), (0, " field 1\n0 0"),
                (0, "field 1 \n0 0"), (0, "field  1\n0 0"), (0, "Field 1\n0 0"), (0, "field -1"), (0, "field 1 1\n0 0"),
                (1, "field 1"), (1, "field 1\n"), (1, "field 1\n0"), (1, "field 1\n0 0 0"), (1, "field 1\n-0 0"),
                (1, "field 1\n0 1000000001"), (1, "field 1\n10000000000 0"), (1, "field 1\n0 00"),
                (1, "field 2\n0 a\nb"), (2, "field 2\n0 0"), (2, "field 2\n0 0\n0 0 \n0 0"), (2, "field 1\n0 0\n"),
                (3, "field 2\n0 0\n0 0\n\n\n"), (32, "field 32" + "\n0 0" * 31), (33, "field 32" + "\n0 0" * 3000)):
            self.refused(BadText, index, field_from, text)


class Cups(TextCase):
    def test_sign_by_sign(self):
        self.gives(cup_text, (plain(8), C), "cup 8\n1 4\n1 5\n1 6\n1 7\n2 6\n2 7\n3 7\n-")
        self.gives(cup_text, (plain(1), (S,)), "cup 1\n-")
        ladder = tuple((x + 1, 31) for x in range(31)) + (S,)
        text = "cup 32\n" + "\n".join(f"{x + 1} 31" for x in range(31)) + "\n-"
        self.gives(cup_text, (plain(32), ladder), text)
        self.gives(cup_from, (plain(32), text), ladder)

    def test_there_and_back(self):
        for field in (plain(1), plain(4), ranked((0,) * 4), margined((0, 1, 2, 3), 1)):
            for cup in cups_of(field):
                text = cup_text(field, cup)
                self.gives(cup_from, (field, text), cup)
        draw = random.Random(2)
        for _ in range(60):
            field = some_field(draw.randrange(1, 33), draw)
            cup = some_cup(field, draw)
            self.gives(cup_from, (field, cup_text(field, cup)), cup)

    def test_spoilt(self):
        for field, cup in ((plain(4), ((1, 1), (2, 3), (1, 3), S)), (ranked((0,) * 4), (S, (2, 0), (1, 0), (1, 1))),
                           (plain(1), (S,)), (plain(2), (S, S)), (margined((0, 1, 2), 1), ((1, 1), (2, 2), S))):
            self.reads_spoilt(lambda text: cup_from(field, text), own_cup(field), cup_text(field, made_cup(field, cup)))
        self.reads_spoilt(lambda text: cup_from(plain(8), text), own_cup(plain(8)), cup_text(plain(8), C), 5)

    def test_named_texts(self):
        field = plain(4)
        for index, text in (
                (0, ""), (0, "cup 3\n-\n-\n-"), (0, "cup 5\n-\n-\n-\n-\n-"), (0, "cup 04\n-\n-\n-\n-"), (0, "cup"),
                (1, "cup 4"), (1, "cup 4\n1 0\n-\n-\n-"), (1, "cup 4\n0 1\n-\n-\n-"), (1, "cup 4\n32 1\n-\n-\n-"),
                (1, "cup 4\n1 4\n-\n-\n-"), (1, "cup 4\n--\n-\n-\n-"), (1, "cup 4\n0 -1\n-\n-\n-"),
                (2, "cup 4\n1 3\n1 1\nx\ny\nz"), (4, "cup 4\n-\n-\n-"), (5, "cup 4\n-\n-\n-\n-\n-"),
                (5, "cup 4\n-\n-\n-\n-\n"), (5, "cup 4\n2 3\n-\n-\n-"), (5, "cup 4\n-\n1 0\n-\n-"),
                (5, "cup 4\n1 3\n1 3\n-\n-"), (5, "cup 4\n1 1\n1 3\n-\n-"), (5, "cup 4\n31 1\n-\n-\n-")):
            self.refused(BadText, index, cup_from, field, text)

    def test_what_is_no_cup(self):
        self.asks_cup(cup_text)
        for _, _, pairs in BAD_CUPS[4:]:
            if len(pairs) == 4 and all(0 <= y < 4 and y != x or (r, y) == S for x, (r, y) in enumerate(pairs)):
                rows = ["-" if pair == S else f"{pair[0]} {pair[1]}" for pair in pairs]
                self.refused(BadText, 5, cup_from, plain(4), "\n".join(["cup 4"] + rows))


class Tables(TextCase):
    def test_sign_by_sign(self):
        self.gives(table_text, (((0,),),), "table 1\n0")
        self.gives(table_text, (((1, MOST), (0, 23)),), "table 2\n1 1000000000\n0 23")
        great = tuple(tuple(MOST - x * y for y in range(32)) for x in range(32))
        text = "table 32\n" + "\n".join(" ".join(str(price) for price in row) for row in great)
        self.gives(table_text, (great,), text)
        self.gives(table_from, (text,), great)

    def test_spoilt(self):
        for table in (((5,),), ((0, 1), (MOST, 7)), ((0, 0, 0), (1, 2, 3), (10, 20, 30))):
            text = table_text(table)
            self.gives(table_from, (text,), table)
            self.reads_spoilt(table_from, own_table, text)
        self.reads_spoilt(table_from, own_table, table_text(((3,) * 12,) * 12), 23)

    def test_what_is_no_table(self):
        self.refused(BadPrice, 0, table_text, ())
        self.refused(BadPrice, 33, table_text, ((-1,),) * 33)
        for x, table in ((0, ((-1,),)), (0, ((MOST + 1,),)), (0, ((),)), (0, ((0, 0),)), (1, ((0, 0), (0,))),
                         (1, ((0, 0), (0, HUGE))), (0, ((0, 0, 0), (0, 0, 0))), (1, ((0, 0), ()))):
            self.refused(BadPrice, (x,), table_text, table)
        for index, text in ((0, ""), (0, "table 0"), (0, "table 33"), (1, "table 2\n0\n0 0"), (2, "table 2\n0 0\n0 -1"),
                            (2, "table 2\n0 0"), (3, "table 2\n0 0\n0 0\n0 0"), (1, "table 1\n1000000001")):
            self.refused(BadText, index, table_from, text)


class Records(TextCase):
    def test_sign_by_sign(self):
        self.gives(records_text, (records(plain(8), C),), "records 8\nl\nl\nl\nl\nwl\nwl\nwwl\nwww")
        self.gives(records_text, (((0, -1), (-1,), (1, 1)),), "records 3\nrl\nl\nww")
        self.gives(records_text, (((),),), "records 1\n.")
        self.gives(records_text, (((),) * 32,), "records 32" + "\n." * 32)
        ladder = tuple((0,) * x + (-1,) for x in range(31)) + ((1,) * 31,)
        text = "records 32\n" + "\n".join("r" * x + "l" for x in range(31)) + "\n" + "w" * 31
        self.gives(records_text, (ladder,), text)
        self.gives(records_from, (text,), ladder)

    def test_there_and_back(self):
        for field in (plain(1), plain(4), ranked((0,) * 4)):
            for cup in cups_of(field):
                rows = records(field, cup)
                self.gives(records_from, (records_text(rows),), rows)

    def test_spoilt(self):
        for text in ("records 1\n.", "records 2\n.\n.", "records 3\nrl\nl\nww", "records 4\nl\nwl\nl\nww"):
            self.reads_spoilt(records_from, own_records, text)

    def test_what_is_no_record(self):
        self.refused(BadSize, 0, records_text, ())
        self.refused(BadSize, 33, records_text, ((7,),) * 33)
        self.refused(BadRecord, (1, 0), records_text, ((1,), (2,), (HUGE,)))
        self.refused(BadRecord, (0, 1), records_text, ((-1, -1), (1, 1)))
        self.refused(BadRecord, (1, -1), records_text, ((-1,), (), (1,)))
        self.refused(BadRounds, 1, records_text, ((0,), (1,)))
        for index, text in ((0, ""), (0, "records 0"), (0, "records 33"), (1, "records 1"), (1, "records 1\n"),
                            (1, "records 2\n..\n."), (1, "records 2\nw l\nl"), (1, "records 2\nW\nl"), (3, "records 2\nw\nw"),
                            (3, "records 2\nl\nl"), (2, "records 2\nw\n"), (3, "records 2\nwr\nl"), (3, "records 2\nw\nlw"),
                            (3, "records 2\n.\n.\n."), (2, "records 1\n" + "r" * 5000), (2, "records 1\n" + "w" * 5000)):
            self.refused(BadText, index, records_from, text)


class Runs(TextCase):
    def test_sign_by_sign(self):
        self.gives(run_text, ((),), "")
        self.gives(run_from, ("",), ())
        run = (("exchange", 0, 31), ("shift", 31, 0), ("shift", 7, 7))
        self.gives(run_text, (run,), "exchange 0 31\nshift 31 0\nshift 7 7")
        self.gives(run_from, ("exchange 0 31\nshift 31 0\nshift 7 7",), run)
        self.gives(run_text, (run_between(plain(8), C, ((1, 5), (1, 6), (1, 4)) + C[3:]),), "exchange 0 2\nexchange 0 1")

    def test_thousand_deeds(self):
        for many in (999, 1000):
            text = "\n".join(["shift 0 1"] * many)
            self.gives(run_text, ((("shift", 0, 1),) * many,), text)
            self.gives(run_from, (text,), (("shift", 0, 1),) * many)
        for many in (1001, 1002, 5000):
            self.refused(TooMany, many, run_text, ((),) * many)
            self.refused(TooMany, many, run_from, "\n".join(["x"] * many))
            self.refused(TooMany, many, run_from, "\n" * (many - 1))
        self.refused(BadText, 0, run_from, "\n" * 999)
        self.refused(BadText, 999, run_from, "shift 0 1\n" * 999)

    def test_spoilt(self):
        for text in ("shift 0 1", "exchange 0 31\nshift 31 0", "exchange 2 3\nexchange 10 11\nshift 5 5"):
            self.reads_spoilt_but_long(text)

    def reads_spoilt_but_long(self, text):
        def own(other):
            many = other.count("\n") + 1
            return own_run(other) if many <= 1000 else ("long", many)

        def read(other):
            try:
                return run_from(other)
            except TooMany as error:
                self.assertEqual(own(other), ("long", error.what))
                return error.what

        self.reads_spoilt(read, own, text)

    def test_what_is_no_run(self):
        good = ("shift", 0, 1)
        for deed in NO_DEEDS[:-1] + ODD + (("exchange", 0, 32), ("shift", 32, 0), ("shift", -1, 0), ("shift", 0, 32),
                                           ["shift", 0, 1], ("shift", 0, None), ({}, 0, 1), 1.5):
            self.refused(BadRow, 0, run_text, (deed, deed))
            self.refused(BadRow, 2, run_text, (good, good, deed))
        for index, text in ((0, " "), (0, "shift 0 1 "), (0, "shift 0 32"), (0, "exchange 1 1"), (0, "exchange 2 1"),
                            (1, "shift 0 1\n"), (1, "shift 0 1\n\nshift 0 1"), (0, "shift 0"), (0, "shift 00 1"),
                            (0, "exchange 0 1 2"), (0, "swap 0 1"), (2, "shift 0 1\nshift 1 0\nexchange 0 99999999999")):
            self.refused(BadText, index, run_from, text)


class Pools(TextCase):
    def test_sign_by_sign(self):
        pool = fixed(fixed(pool_of(plain(8), C, loose=(2,)), 4, 6), 0, 7)
        text = "pool 8\nexits 1 1 1 1 2 2 3 0\nhall 4 5 6 7\nhall 6 7\nhall 7\ntold 0 7\ntold 4 6"
        self.gives(pool_text, (pool,), text)
        self.exactly(picture_of(pool_from(plain(8), text)), picture_of(pool))
        self.gives(pool_text, (pool_of(plain(1), (S,)),), "pool 1\nexits 0")
        self.exactly(picture_of(pool_from(plain(1), "pool 1\nexits 0")), picture_of(pool_of(plain(1), (S,))))
        ladder = tuple(range(1, 32)) + (0,)
        pool = pool_of_exits(plain(32), ladder)
        self.exactly(picture_of(pool_from(plain(32), pool_text(pool))), picture_of(pool))
        self.assertTrue(pool_text(pool).endswith("\nhall 29 30 31\nhall 30 31\nhall 31"))

    def test_there_and_back(self):
        told = 0
        for pool, _ in some_pools(17, 150, most=9):
            text = pool_text(pool)
            found = pool_from(pool.field, text)
            self.assertIs(type(found), Pool)
            self.assertIs(found.field, pool.field)
            self.exactly(picture_of(found), picture_of(pool))
            self.exactly(pool_text(found), text)
            told += len(pool.told) > 0
        self.assertGreater(told, 20)

    def test_spoilt(self):
        for pool in (pool_of(plain(2), ((1, 1), S)), pool_of(plain(2), (S, S)), pool_of(plain(1), (S,)),
                     fixed(pool_of(plain(4), ((1, 1), (2, 3), (1, 3), S), loose=(1, 2)), 2, 3),
                     fixed(pool_of_exits(ranked((0,) * 4), (1, 1, 0, 0)), 0, 3)):
            self.reads_spoilt(
                lambda text: picture_of(pool_from(pool.field, text)), own_pool(pool.field), pool_text(pool))
        for seed in (3, 4, 5):
            for pool, _ in some_pools(seed, 8, most=6, limit=60):
                self.reads_spoilt(
                    lambda text: picture_of(pool_from(pool.field, text)), own_pool(pool.field), pool_text(pool), 7)

    def test_named_texts(self):
        field, head = plain(4), "pool 4\nexits 1 1 0 0"
        self.exactly(pool_from(field, head + "\nhall 2 3").told, ())
        for index, text in (
                (0, ""), (0, "pool 3\nexits 0 0 0"), (1, "pool 4"), (1, "pool 4\nexits 0 0 0"), (1, "pool 4\nexits"),
                (1, "pool 4\nexits 0 0 0 32"), (2, head), (2, head + "\nhall"), (2, head + "\nhall 3 2"),
                (2, head + "\nhall 2 2 3"), (2, head + "\nhall 1 2 3"), (2, head + "\nhall 2 3 4"), (2, head + "\ntold 0 2"),
                (3, head + "\nhall 2 3\nhall 2 3"), (3, head + "\nhall 2 3\n"), (3, head + "\nhall 2 3\ntold 2 3"),
                (3, head + "\nhall 2\ntold 0 3"), (3, head + "\nhall 2 3\ntold 0 4"), (3, head + "\nhall 2 3\ntold 4 3"),
                (4, head + "\nhall 2 3\ntold 1 2\ntold 0 3"), (4, head + "\nhall 2 3\ntold 0 3\ntold 0 3"),
                (5, head + "\nhall 2 3\ntold 0 2\ntold 1 2"), (5, head + "\nhall 2 3\ntold 0 2\ntold 0 3"),
                (3, head + "\nhall 2"), (3, "pool 4\nexits 2 0 0 0\nhall 3"), (4, "pool 4\nexits 2 0 0 0\nhall 3\nhall 3"),
                (3, "pool 4\nexits 0 0 1 1\nhall 0 1"), (2, "pool 4\nexits 1 1 1 1\nhall 0"),
                (2, "pool 4\nexits 0 0 0 0\ntold 0 1"), (2, "pool 4\nexits 0 0 0 0\n"), (3, "pool 4\nexits 31 0 0 0\nhall 3"),
                (33, "pool 4\nexits 31 0 0 0" + "\nhall 3" * 31)):
            self.refused(BadText, index, pool_from, field, text)
        # 1 may not beat 2 there, told or not.
        self.refused(BadText, 3, pool_from, plain(3), "pool 3\nexits 0 0 1\nhall 0 1")
        self.refused(BadText, 4, pool_from, plain(3), "pool 3\nexits 0 0 1\nhall 0 1\ntold 2 1")
