"""All cups of a plan in a plain field, numbered by their words and within a word as in a pool."""

from boutstairs.cuplooks import plan_of
from boutstairs.errors import BadCount, NotSame
from boutstairs.fieldmakes import plain
from boutstairs.plans import cups_total
from boutstairs.poolranks import check_digits, cup_numbered, last_remainder, number_of
from boutstairs.pools import pool_of_exits
from boutstairs.wordrows import counted_words
from boutstairs.words import exits_of, word_of


def parts_at(rows, state, before):
    """Triples (exit, number of cups, (state behind it, choices up to there)) of what may come next.

    The choices of the entries before multiply to `before`; the cups are all whose words go on so.
    """
    found = []
    for r, choices, after in rows.steps(state):
        ways_there = before * choices
        found.append((r, ways_there * rows.cups_from(after), (after, ways_there)))
    return found


def part_with(rows, state, before, k):
    """The part of parts_at in which number k falls, with what is left of k in the place of its size."""
    left = k
    for r, many, ahead in parts_at(rows, state, before):
        if left < many:
            return (r, left, ahead)
        left = left - many
    return None


def cup_with(n, rows, k):
    """The cup with number k, which is below their number."""
    word = []
    left = k
    state = rows.start
    before = 1
    while state != rows.end:
        r, left, (state, before) = part_with(rows, state, before, left)
        word.append(r)
    return cup_numbered(pool_of_exits(plain(n), exits_of(tuple(word))), left)


def cups_before(rows, word):
    """How many cups have lesser words."""
    total = 0
    state = rows.start
    before = 1
    for entry in word:
        parts = parts_at(rows, state, before)
        total = total + sum([many for r, many, _ in parts if r < entry])
        state, before = [ahead for r, _, ahead in parts if r == entry][0]
    return total


def cup_at(n, plan, k):
    """The cup with number k."""
    rows = counted_words(n, plan)
    if not 0 <= k < cups_total(n, plan):
        raise BadCount(k)
    return cup_with(n, rows, k)


def cup_number(n, plan, cup):
    """The number of a cup by the plan."""
    rows = counted_words(n, plan)
    field = plain(n)
    if plan_of(field, cup) != plan:
        raise NotSame(0)
    exits = tuple([r for r, _ in cup])
    return cups_before(rows, word_of(exits)) + number_of(pool_of_exits(field, exits), cup)


def drawn_cup(n, plan, digits):
    """The cup that the digits draw."""
    rows = counted_words(n, plan)
    check_digits(digits)
    return cup_with(n, rows, last_remainder(digits, cups_total(n, plan)))
