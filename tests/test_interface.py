"""The names and arguments of the interface, and the files in which they are defined."""

import importlib
import inspect
import unittest

INTERFACE = {
    "shares": "share(n, d) plus(a, b) times(a, b) less(a, b) mean(shares)",
    "polys": "poly_plus(a, b) poly_times(a, b) poly_at(p, x) choose(n, k) factorial(n)",
    "fields": "Field made_field(strengths, guards) is_field(strengths, guards)",
    "fieldlooks":
        "may_beat(field, y, x) beaters(field, x) prey(field, y) winner_of(field, x, y) is_plain(field) "
        "stair_row(field, sides)",
    "fieldmakes":
        "plain(n) ranked(numbers) margined(numbers, by) eased(field, x, strength, guard) kept_field(field, sides) "
        "beside_fields(one, two) roomier(one, two) within(one, two)",
    "boards":
        "board_row(guards) board_choices(guards, strengths) board_count(guards, strengths) "
        "board_short(guards, strengths) board_rings(guards, strengths) seat_choices(guards, strengths)",
    "boardchance": "board_chance(guards, strengths, i, j) boards_chance(guards, strengths, pairs)",
    "boardsets":
        "board_marks(guards, strengths, pairs) board_weighed(guards, strengths, table) "
        "board_cheapest(guards, strengths, table)",
    "plans": "made_plan(n, plan) alive(n, plan) resting(n, plan) is_full(n, plan) cups_total(n, plan)",
    "planmakers": "full(n) quick(n) byes_first(n) ladder(n) plan_count(n)",
    "cups": "made_cup(field, pairs) is_cup(field, pairs)",
    "cuplooks":
        "rounds(field, cup) exits(field, cup) losers(field, cup, r) winners(field, cup, r) resters(field, cup, r) "
        "games(field, cup, r) plan_of(field, cup) stayers(field, cup) wins(field, cup) opponents(field, cup, x)",
    "records": "records(field, cup) made_records(rows) is_records(rows)",
    "boughs": "path(field, cup, x) holder(field, cup, x, r) bough(field, cup, x) bough_after(field, cup, x, r)",
    "meetings": "meet(field, cup, x, y) keeps_apart(field, cup, sides, r)",
    "seats": "cup_of_seats(field, seats) seats_of(field, cup)",
    "seatforms": "least_seats(seats) same_seats(one, two) pairings(n)",
    "deeds": "offers(field, cup, *, loose=())",
    "done": "done(field, cup, deed, *, loose=()) back_of(field, cup, deed, *, loose=())",
    "runs": "walked(field, cup, run, *, loose=()) turned_run(field, cup, run, *, loose=())",
    "judged": "run_right(field, cup, run, goal, *, loose=())",
    "ways": "same(field, one, two, *, loose=()) ways(field, one, two, *, loose=())",
}


def entries(text):
    """The entries of a row of the interface: they are parted by blanks outside of brackets."""
    return text.replace(") ", ")|").replace("Field ", "Field|").split("|")


class Interface(unittest.TestCase):
    def test_names_and_arguments(self):
        for file, text in INTERFACE.items():
            module = importlib.import_module("boutstairs." + file)
            for entry in entries(text):
                name = entry.partition("(")[0]
                self.assertTrue(hasattr(module, name), entry)
                self.assertEqual(getattr(module, name).__module__, module.__name__, entry)
                if "(" in entry:
                    self.assertEqual(name + str(inspect.signature(getattr(module, name))), entry)
