"""Calls of every function with ordinary arguments: they are as they were, and no list comes back."""

import importlib

from boutstairs.fieldmakes import margined, plain
from boutstairs.fields import Field
from boutstairs.live import Live
from boutstairs.narrowing import fixed
from boutstairs.pools import Pool, pool_of
from tests.helpers import S, Case, parts_of
from tests.test_interface import INTERFACE, entries

PLAIN = plain(8)
ONE = ((1, 4), (1, 5), (1, 6), (1, 7), (2, 6), (2, 7), (3, 7), S)
TWO = ((1, 5), (1, 6), (1, 4)) + ONE[3:]
RUN = (("exchange", 0, 2), ("exchange", 0, 1))
MID = ((1, 6), (1, 5), (1, 4)) + ONE[3:]
POOL = fixed(pool_of(PLAIN, ONE, loose=(1,)), 4, 6)
ROOMY = pool_of(PLAIN, ((1, 4),) + (S,) * 7, loose=(1,))
EXITS = (1, 1, 1, 1, 2, 2, 3, 0)
HALLS = ((4, 5, 6, 7), (6, 7), (7,))
ROWS = ((1, 1), (-1,), (0, -1))
TABLE = ((3, 1, 2), (1, 1, 1))
PRICES = tuple(tuple(x + y for y in range(8)) for x in range(8))
WORD = (0, 2, 1, 1)
ROOM = margined((0, 1, 2, 3, 4, 5), 9)
WIDE = ((1, 4), (1, 4), (1, 5), (1, 5), S, S)
WIDER = ((1, 5), (1, 5), (1, 4), (1, 4), S, S)


def moved_live():
    """A live cup that can go home by a deed."""
    live = Live(PLAIN, ONE, loose=(1,))
    live.exchange(0, 1)
    return live


def strayed_live():
    """A live cup that cannot go home."""
    live = moved_live()
    live.play(0)
    return live


LEDGER = ((1, 1), (1, -1), (-1,), (-1,))
ARGUMENTS = {
    "mean": (((1, 2), (1, 3)),), "poly_at": ((1, 2), 3), "choose": (5, 2), "factorial": (5,), "share": (4, -6),
    "plain": (3,), "ranked": ((3, 1),), "margined": ((3, 1), 2), "eased": (PLAIN, 0, 5, -5),
    "beside_fields": (PLAIN, margined((0, 1), 1)), "roomier": (PLAIN, PLAIN), "within": (PLAIN, PLAIN),
    "may_beat": (PLAIN, 5, 3), "winner_of": (PLAIN, 5, 3), "prey": (PLAIN, 5), "beaters": (PLAIN, 5),
    "board_row": ((1, 2, 2),), "board_chance": ((0, 1), (1, 0, 1), 0, 1), "keeps_apart": (PLAIN, ONE, (0, 1), 2),
    "boards_chance": ((0, 1), (1, 0, 1), ((0, 1),)), "board_marks": ((0, 1), (1, 0, 1), ((0, 1),)),
    "board_weighed": ((0, 1), (1, 0, 1), TABLE), "board_cheapest": ((0, 1), (1, 0, 1), TABLE),
    "made_field": ((0, 1), (1, 0)), "is_field": ((0, 1), (1, 0)), "opponents": (PLAIN, ONE, 6),
    "made_records": (ROWS,), "is_records": (ROWS,), "cup_of_seats": (PLAIN, (3, 2, 1, 0, 4, 5, 6, 7)),
    "least_seats": ((3, 2, 1, 0),), "same_seats": ((3, 2, 1, 0), (0, 1, 2, 3)), "pairings": (8,),
    "done": (PLAIN, ONE, RUN[0]), "back_of": (PLAIN, ONE, RUN[0]), "walked": (PLAIN, ONE, RUN),
    "turned_run": (PLAIN, ONE, RUN), "run_right": (PLAIN, ONE, RUN, TWO), "same": (PLAIN, ONE, TWO),
    "ways": (PLAIN, ONE, TWO), "paper_right": (PLAIN, ONE, TWO, ("exit", 0, 1, 2)),
    "between": (PLAIN, ONE, MID, TWO), "between_rank": (PLAIN, ONE, MID, TWO), "taken": (PLAIN, ONE, TWO, (0,)),
    "shortest_rank": (PLAIN, ONE, TWO, RUN), "run_price": (PLAIN, ONE, RUN, (3, 4)),
    "least_price": (PLAIN, ONE, TWO, (3, 4)), "short_exits": (PLAIN, EXITS),
    "short_right": (PLAIN, EXITS, HALLS, 1, 0), "pool_of_exits": (PLAIN, EXITS), "freed": (POOL, 4),
    "rested": (ROOMY, 1, 4),
    "fixed": (POOL, 0, 5), "both_pools": (POOL, POOL), "moved": (POOL, margined(tuple(range(8)), 1)),
    "drawn": (POOL, (3, -5)), "at_distance": (POOL, ONE, 2, 1), "distance_rank": (POOL, ONE, TWO),
    "told_chance": (POOL, ((0, 4), (4, 6))), "short_records": (plain(3), ((-1,), (0, -1), (1, 1))),
    "pool_of_records": (plain(3), ((-1,), (0, -1), (1, 1))), "apart_chance": (POOL, (0, 1, 2), 2),
    "marks": (POOL, ((0, 4), (4, 6))), "cup_price": (PLAIN, ONE, PRICES), "weighed_chance": (POOL, PRICES, 0, 5),
    "drawn_by": (POOL, PRICES, (3, -5)), "exits_of": (WORD,), "word_of": (WORD,), "nth_word": (4, (2, 1), 1),
    "exit_chances": (4, (2, 1), 1), "full_wins": (3, 2), "full_play": (3, 2, 5), "nth_ledger": (4, (2, 1), 1),
    "record_chances": (4, (2, 1), 1), "cup_at": (4, (2, 1), 1), "cup_number": (4, (2, 1), ((1, 1), (2, 3), (1, 3), S)),
    "drawn_cup": (4, (2, 1), (3, -5)), "begun": (PLAIN, ONE, 0), "followed": (PLAIN, ONE, (S,)),
    "beside": (PLAIN, ONE, margined((0, 1), 1), ((1, 1), S)), "final": (plain(3), ((1, 1), S, S)),
    "strike": (PLAIN, ONE, 0), "entered": (PLAIN, ONE, 3, 4, 4, 7), "flipped": (margined((0, 1), 1), ((1, 1), S), 0),
    "deeds_between": (PLAIN, (ONE, MID)), "history_right": (PLAIN, (ONE, MID)), "shortened": (PLAIN, (ONE, MID, ONE)),
    "wide_made": (ROOM, 2, WIDE), "wide_is": (ROOM, 2, WIDE), "wide_done": (ROOM, 2, WIDE, ("exchange", 0, 2)),
    "wide_walked": (ROOM, 2, WIDE, (("exchange", 0, 2), ("exchange", 1, 3))), "wide_choices": (ROOM, 2, WIDE, 1),
    "wide_nth": (ROOM, 2, WIDE, 4), "wide_rank": (ROOM, 2, WIDE, WIDER), "wide_together": (ROOM, 2, WIDE, 0, 1),
    "wide_words": (2, 2), "wide_total": (2, 2), "field_from": ("field 2\n0 1\n-5 7",), "plan_from": ("plan 4 2 1",),
    "word_text": (WORD,), "word_from": ("word 0 2 1 1",), "cup_from": (plain(2), "cup 2\n1 1\n-"),
    "records_text": (ROWS,), "records_from": ("records 2\nl\nw",), "run_text": (RUN,), "run_from": ("shift 0 1",),
    "seats_text": ((3, 2, 1, 0),), "seats_from": ("((0 1) (2 3))",), "table_text": (PRICES,),
    "table_from": ("table 2\n0 1\n2 3",), "paper_text": (("rest", 1, 2),), "paper_from": ("few 1 2",),
    "pool_from": (plain(2), "pool 2\nexits 1 0\nhall 1\ntold 0 1"), "why_not": (strayed_live(),),
    "chance": (moved_live(), 0, 5), "answer": (moved_live(), "cup"),
}
BY_PARAMETERS = {
    "(live)": (moved_live(),),
    "(a, b)": ((1, 2), (3, 4)), "(n, plan)": (8, (4, 2, 1)), "(n)": (8,), "(field)": (PLAIN,),
    "(field, sides)": (PLAIN, (1, 3, 4)), "(guards, strengths)": ((0, 1), (1, 0)), "(field, pairs)": (PLAIN, ONE),
    "(field, cup)": (PLAIN, ONE), "(field, cup, r)": (PLAIN, ONE, 2), "(field, cup, x)": (PLAIN, ONE, 6),
    "(field, cup, x, r)": (PLAIN, ONE, 6, 1), "(field, cup, x, y)": (PLAIN, ONE, 1, 0),
    "(field, cup, *, loose=())": (PLAIN, ONE), "(field, one, two, *, loose=())": (PLAIN, ONE, TWO),
    "(field, one, two, k, *, loose=())": (PLAIN, ONE, TWO, 1), "(pool)": (POOL,), "(pool, cup)": (POOL, ONE),
    "(pool, r)": (POOL, 2), "(pool, k)": (POOL, 1), "(pool, r, y)": (POOL, 1, 5), "(pool, x)": (POOL, 0),
    "(pool, y)": (POOL, 6), "(pool, x, y)": (POOL, 0, 5), "(pool, x, r)": (POOL, 0, 2),
    "(field, many, cup)": (ROOM, 2, WIDE), "(field, many, one, two)": (ROOM, 2, WIDE, WIDER),
    "(field, many, cup, x, y)": (ROOM, 2, WIDE, 0, 4), "(pool, table)": (POOL, PRICES),
    "(n, plan, word)": (4, (2, 1), WORD), "(n, plan, ledger)": (4, (2, 1), LEDGER),
}


def picture(value):
    """The value with each field and pool told by its attributes."""
    if isinstance(value, Pool):
        return ("pool", picture(value.field), value.exits, value.halls, value.told)
    if isinstance(value, Field):
        return ("field", value.n, value.strengths, value.guards)
    if isinstance(value, Live):
        return ("live", picture(value.field()), value.cup(), value.loose(), value.marked(), value.played(), value.record())
    if isinstance(value, (tuple, list)):
        return type(value)(picture(part) for part in value)
    return value


class Unchanged(Case):
    def test_every_function(self):
        for file, text in INTERFACE.items():
            module = importlib.import_module("boutstairs." + file)
            for entry in entries(text):
                name, _, parameters = entry.partition("(")
                if parameters:
                    args = ARGUMENTS.get(name) or BY_PARAMETERS["(" + parameters]
                    self.one_call(getattr(module, name), args)

    def one_call(self, call, args):
        before = picture(args)
        first = picture(call(*args))
        self.exactly(picture(args), before)
        self.exactly(picture(call(*args)), first)
        for part in parts_of(first):
            self.assertIn(type(part), (tuple, int, str, bool, type(None)), call.__name__)
