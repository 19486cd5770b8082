"""The names and arguments of the interface, and the files in which they are defined."""

import importlib
import inspect
import unittest

INTERFACE = {
    "shares": "share(n, d) plus(a, b) times(a, b) less(a, b) mean(shares)",
    "polys": "poly_plus(a, b) poly_times(a, b) poly_at(p, x) choose(n, k) factorial(n)",
    "fields": "Field made_field(strengths, guards) is_field(strengths, guards)",
    "fieldlooks":
        "may_beat(field, y, x) beaters(field, x) prey(field, y) winner_of(field, x, y) is_plain(field) "
        "stair_row(field, sides)",
    "fieldmakes":
        "plain(n) ranked(numbers) margined(numbers, by) eased(field, x, strength, guard) kept_field(field, sides) "
        "beside_fields(one, two) roomier(one, two) within(one, two)",
    "boards":
        "board_row(guards) board_choices(guards, strengths) board_count(guards, strengths) "
        "board_short(guards, strengths) board_rings(guards, strengths) seat_choices(guards, strengths)",
    "boardchance": "board_chance(guards, strengths, i, j) boards_chance(guards, strengths, pairs)",
    "boardsets":
        "board_marks(guards, strengths, pairs) board_weighed(guards, strengths, table) "
        "board_cheapest(guards, strengths, table)",
    "plans": "made_plan(n, plan) alive(n, plan) resting(n, plan) is_full(n, plan) cups_total(n, plan)",
    "planmakers": "full(n) quick(n) byes_first(n) ladder(n) plan_count(n)",
    "cups": "made_cup(field, pairs) is_cup(field, pairs)",
    "cuplooks":
        "rounds(field, cup) exits(field, cup) losers(field, cup, r) winners(field, cup, r) resters(field, cup, r) "
        "games(field, cup, r) plan_of(field, cup) stayers(field, cup) wins(field, cup) opponents(field, cup, x)",
    "records": "records(field, cup) made_records(rows) is_records(rows)",
    "boughs": "path(field, cup, x) holder(field, cup, x, r) bough(field, cup, x) bough_after(field, cup, x, r)",
    "meetings": "meet(field, cup, x, y) keeps_apart(field, cup, sides, r)",
    "seats": "cup_of_seats(field, seats) seats_of(field, cup)",
    "seatforms": "least_seats(seats) same_seats(one, two) pairings(n)",
    "deeds": "offers(field, cup, *, loose=())",
    "done": "done(field, cup, deed, *, loose=()) back_of(field, cup, deed, *, loose=())",
    "runs": "walked(field, cup, run, *, loose=()) turned_run(field, cup, run, *, loose=())",
    "judged": "run_right(field, cup, run, goal, *, loose=())",
    "ways": "same(field, one, two, *, loose=()) ways(field, one, two, *, loose=())",
    "rule": "fewest(field, one, two, *, loose=()) run_between(field, one, two, *, loose=())",
    "papers": "paper(field, one, two, *, loose=()) paper_right(field, one, two, paper, *, loose=())",
    "between":
        "between(field, one, mid, two, *, loose=()) between_count(field, one, two, *, loose=()) "
        "between_at(field, one, two, k, *, loose=()) between_rank(field, one, mid, two, *, loose=()) "
        "taken(field, one, two, which, *, loose=())",
    "shortest":
        "shortest_count(field, one, two, *, loose=()) shortest_at(field, one, two, k, *, loose=()) "
        "shortest_rank(field, one, two, run, *, loose=())",
    "prices": "run_price(field, cup, run, prices, *, loose=()) least_price(field, one, two, prices, *, loose=())",
    "fits": "short_exits(field, exits) short_records(field, rows) short_right(field, exits, halls, r, x)",
    "pools":
        "Pool pool_of(field, cup, *, loose=()) pool_of_exits(field, exits) pool_of_records(field, rows) "
        "losers_free(pool, r) hall_free(pool, r) choices(pool, r) beater_choices(pool, r) size(pool) holds(pool, cup)",
    "narrowing": "fixed(pool, x, y) freed(pool, x) rested(pool, r, y) both_pools(one, two) moved(pool, field)",
    "poolranks": "nth(pool, k) rank(pool, cup) drawn(pool, digits)",
    "spreads":
        "balls(pool) farthest(pool) mean_fewest(pool) farthest_cup(pool, cup) at_distance(pool, cup, d, k) "
        "distance_rank(pool, cup, other)",
    "gamechances":
        "game_chance(pool, x, y) told_chance(pool, games) rest_chance(pool, r, y) wins_chances(pool, y) "
        "wins_mean(pool, y) may_play(pool, x) sure_play(pool, x)",
    "holders": "holder_chances(pool, x, r)",
    "abovechances": "above_chance(pool, x, y) depth_chances(pool, x) depth_mean(pool, x) bough_mean(pool, y)",
    "meetchances": "meet_chances(pool, x, y) meet_games(pool, x, y)",
    "apartchances": "apart_chance(pool, sides, r)",
    "marks": "marks(pool, games) agree(pool, cup) upsets(pool)",
    "tables": "cup_price(field, cup, table) mean_price(pool, table) price_variance(pool, table)",
    "weights": "weighed(pool, table) weighed_chance(pool, table, x, y) drawn_by(pool, table, digits)",
    "cheapest": "cheapest(pool, table)",
    "words":
        "word_fits(n, plan, word) words_count(n, plan) word_size(n, plan, word) exits_of(word) word_of(exits)",
    "wordranks": "nth_word(n, plan, k) word_rank(n, plan, word)",
    "exitchances": "exit_chances(n, plan, x)",
    "fullchances": "full_wins(k, x) full_play(k, x, y)",
    "ledgers": "ledger_fits(n, plan, ledger) ledgers_count(n, plan) ledger_size(n, plan, ledger)",
    "ledgerranks": "nth_ledger(n, plan, k) ledger_rank(n, plan, ledger) record_chances(n, plan, x)",
    "allcups": "cup_at(n, plan, k) cup_number(n, plan, cup) drawn_cup(n, plan, digits)",
    "cuts": "begun(field, cup, r) rest_of(field, cup, r) followed(field, first, second) bough_of(field, cup, x)",
    "joins": "beside(one, first, two, second) final(field, cup)",
    "strikes": "strike(field, cup, x) entered(field, cup, strength, guard, r, y)",
    "flips": "flipped(field, cup, x) flips(field, cup)",
    "histories":
        "deeds_between(field, cups, *, loose=()) history_right(field, cups, *, loose=()) "
        "shortened(field, cups, *, loose=())",
    "widecups":
        "wide_made(field, many, pairs) wide_is(field, many, pairs) wide_games(field, many, cup) "
        "wide_same(field, many, one, two)",
    "widedeeds":
        "wide_done(field, many, cup, deed) wide_walked(field, many, cup, run) wide_offers(field, many, cup) "
        "wide_run(field, many, one, two) wrong(field, many, one, two)",
    "widecounts":
        "wide_choices(field, many, cup, r) wide_size(field, many, cup) wide_nth(field, many, cup, k) "
        "wide_rank(field, many, cup, other) wide_fewest(field, many, one, two)",
    "widechances":
        "wide_chance(field, many, cup, x, y) wide_above(field, many, cup, x, y) wide_together(field, many, cup, x, z)",
    "widewords": "wide_words(many, k) wide_total(many, k)",
    "fieldtext": "field_text(field) field_from(text)",
    "plantext": "plan_text(n, plan) plan_from(text) word_text(word) word_from(text)",
    "cuptext": "cup_text(field, cup) cup_from(field, text)",
    "recordtext": "records_text(rows) records_from(text)",
    "runtext": "run_text(run) run_from(text)",
    "seattext": "seats_text(seats) seats_from(text)",
    "tabletext": "table_text(table) table_from(text)",
    "papertext": "paper_text(paper) paper_from(text)",
    "pooltext": "pool_text(pool) pool_from(field, text)",
    "live": "Live(field, cup, *, loose=())",
    "liveasks": "pool_now(live) can_home(live) why_not(live) way_home(live) left(live) chance(live, x, y)",
    "sayslive": "answer(live, row)",
}


def entries(text):
    """The entries of a row of the interface: they are parted by blanks outside of brackets."""
    found = []
    for word in text.split():
        # A word goes on an entry that has not closed its brackets yet.
        if found and found[-1].count("(") > found[-1].count(")"):
            found[-1] += " " + word
        else:
            found.append(word)
    return found


class Interface(unittest.TestCase):
    def test_names_and_arguments(self):
        for file, text in INTERFACE.items():
            module = importlib.import_module("boutstairs." + file)
            for entry in entries(text):
                name = entry.partition("(")[0]
                self.assertTrue(hasattr(module, name), entry)
                self.assertEqual(getattr(module, name).__module__, module.__name__, entry)
                if "(" in entry:
                    self.assertEqual(name + str(inspect.signature(getattr(module, name))), entry)
