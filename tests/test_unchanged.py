"""Calls of every function with ordinary arguments: they are as they were, and no list comes back."""

import importlib

from boutstairs.fieldmakes import margined, plain
from boutstairs.fields import Field
from tests.helpers import S, Case, parts_of
from tests.test_interface import INTERFACE, entries

PLAIN = plain(8)
ONE = ((1, 4), (1, 5), (1, 6), (1, 7), (2, 6), (2, 7), (3, 7), S)
TWO = ((1, 5), (1, 6), (1, 4)) + ONE[3:]
RUN = (("exchange", 0, 2), ("exchange", 0, 1))
ROWS = ((1, 1), (-1,), (0, -1))
TABLE = ((3, 1, 2), (1, 1, 1))
ARGUMENTS = {
    "mean": (((1, 2), (1, 3)),), "poly_at": ((1, 2), 3), "choose": (5, 2), "factorial": (5,), "share": (4, -6),
    "plain": (3,), "ranked": ((3, 1),), "margined": ((3, 1), 2), "eased": (PLAIN, 0, 5, -5),
    "beside_fields": (PLAIN, margined((0, 1), 1)), "roomier": (PLAIN, PLAIN), "within": (PLAIN, PLAIN),
    "may_beat": (PLAIN, 5, 3), "winner_of": (PLAIN, 5, 3), "prey": (PLAIN, 5), "beaters": (PLAIN, 5),
    "board_row": ((1, 2, 2),), "board_chance": ((0, 1), (1, 0, 1), 0, 1), "keeps_apart": (PLAIN, ONE, (0, 1), 2),
    "boards_chance": ((0, 1), (1, 0, 1), ((0, 1),)), "board_marks": ((0, 1), (1, 0, 1), ((0, 1),)),
    "board_weighed": ((0, 1), (1, 0, 1), TABLE), "board_cheapest": ((0, 1), (1, 0, 1), TABLE),
    "made_field": ((0, 1), (1, 0)), "is_field": ((0, 1), (1, 0)), "opponents": (PLAIN, ONE, 6),
    "made_records": (ROWS,), "is_records": (ROWS,), "cup_of_seats": (PLAIN, (3, 2, 1, 0, 4, 5, 6, 7)),
    "least_seats": ((3, 2, 1, 0),), "same_seats": ((3, 2, 1, 0), (0, 1, 2, 3)), "pairings": (8,),
    "done": (PLAIN, ONE, RUN[0]), "back_of": (PLAIN, ONE, RUN[0]), "walked": (PLAIN, ONE, RUN),
    "turned_run": (PLAIN, ONE, RUN), "run_right": (PLAIN, ONE, RUN, TWO), "same": (PLAIN, ONE, TWO),
    "ways": (PLAIN, ONE, TWO),
}
BY_PARAMETERS = {
    "(a, b)": ((1, 2), (3, 4)), "(n, plan)": (8, (4, 2, 1)), "(n)": (8,), "(field)": (PLAIN,),
    "(field, sides)": (PLAIN, (1, 3, 4)), "(guards, strengths)": ((0, 1), (1, 0)), "(field, pairs)": (PLAIN, ONE),
    "(field, cup)": (PLAIN, ONE), "(field, cup, r)": (PLAIN, ONE, 2), "(field, cup, x)": (PLAIN, ONE, 6),
    "(field, cup, x, r)": (PLAIN, ONE, 6, 1), "(field, cup, x, y)": (PLAIN, ONE, 1, 0),
    "(field, cup, *, loose=())": (PLAIN, ONE),
}


def picture(value):
    """The value with each field told by its attributes."""
    if isinstance(value, Field):
        return ("field", value.n, value.strengths, value.guards)
    if isinstance(value, (tuple, list)):
        return type(value)(picture(part) for part in value)
    return value


class Unchanged(Case):
    def test_every_function(self):
        for file, text in INTERFACE.items():
            module = importlib.import_module("boutstairs." + file)
            for entry in entries(text):
                name, _, parameters = entry.partition("(")
                if parameters:
                    args = ARGUMENTS.get(name) or BY_PARAMETERS["(" + parameters]
                    self.one_call(getattr(module, name), args)

    def one_call(self, call, args):
        before = picture(args)
        first = picture(call(*args))
        self.exactly(picture(args), before)
        self.exactly(picture(call(*args)), first)
        for part in parts_of(first):
            self.assertIn(type(part), (tuple, int, str, bool, type(None)), call.__name__)
