"""Chances of exits, all cups of a plan in a plain field being equally likely."""

from boutstairs.checks import check_side
from boutstairs.plans import cups_total
from boutstairs.shares import share
from boutstairs.wordrows import counted_words


def cups_to(rows, many):
    """For each state behind so many entries, how many ways lead to it, by beaters too."""
    found = {rows.start: 1}
    for _ in range(many):
        ahead = {}
        for state, ways_there in found.items():
            for _, choices, after in rows.steps(state):
                ahead[after] = ahead.get(after, 0) + ways_there * choices
        found = ahead
    return found


def exit_chances(n, plan, x):
    """At e the chance that x has the exit e."""
    rows = counted_words(n, plan)
    check_side(n, x)
    counts = [0] * (len(plan) + 1)
    for state, ways_there in cups_to(rows, n - 1 - x).items():
        for r, choices, after in rows.steps(state):
            counts[r] = counts[r] + ways_there * choices * rows.cups_from(after)
    return tuple([share(many, cups_total(n, plan)) for many in counts])
