"""The names and arguments of the interface, and the files in which they are defined."""

import importlib
import inspect
import unittest

INTERFACE = {
    "shares": "share(n, d) plus(a, b) times(a, b) less(a, b) mean(shares)",
    "polys": "poly_plus(a, b) poly_times(a, b) poly_at(p, x) choose(n, k) factorial(n)",
    "fields": "Field made_field(strengths, guards) is_field(strengths, guards)",
    "fieldlooks":
        "may_beat(field, y, x) beaters(field, x) prey(field, y) winner_of(field, x, y) is_plain(field) "
        "stair_row(field, sides)",
    "fieldmakes":
        "plain(n) ranked(numbers) margined(numbers, by) eased(field, x, strength, guard) kept_field(field, sides) "
        "beside_fields(one, two) roomier(one, two) within(one, two)",
    "boards":
        "board_row(guards) board_choices(guards, strengths) board_count(guards, strengths) "
        "board_short(guards, strengths) board_rings(guards, strengths) seat_choices(guards, strengths)",
    "boardchance": "board_chance(guards, strengths, i, j) boards_chance(guards, strengths, pairs)",
    "boardsets":
        "board_marks(guards, strengths, pairs) board_weighed(guards, strengths, table) "
        "board_cheapest(guards, strengths, table)",
    "plans": "made_plan(n, plan) alive(n, plan) resting(n, plan) is_full(n, plan) cups_total(n, plan)",
    "planmakers": "full(n) quick(n) byes_first(n) ladder(n) plan_count(n)",
}


def entries(text):
    """The entries of a row of the interface: they are parted by blanks outside of brackets."""
    return text.replace(") ", ")|").replace("Field ", "Field|").split("|")


class Interface(unittest.TestCase):
    def test_names_and_arguments(self):
        for file, text in INTERFACE.items():
            module = importlib.import_module("boutstairs." + file)
            for entry in entries(text):
                name = entry.partition("(")[0]
                self.assertTrue(hasattr(module, name), entry)
                self.assertEqual(getattr(module, name).__module__, module.__name__, entry)
                if "(" in entry:
                    self.assertEqual(name + str(inspect.signature(getattr(module, name))), entry)
