"""Cutting cups: their beginning, their rest, both again in one, and a bough by itself."""

from boutstairs.boughs import bough
from boutstairs.checks import check_round
from boutstairs.cuplooks import comes_through, last_round, round_losers
from boutstairs.cups import STAYS, made_cup
from boutstairs.fieldmakes import kept_field


def check_cut(field, cup, r):
    """Refuse what is no cup, or no round of it from 0 on."""
    made_cup(field, cup)
    check_round(r, 0, last_round(cup))


def begun(field, cup, r):
    """The cup with the games of the rounds up to r alone."""
    check_cut(field, cup, r)
    return tuple([pair if pair[0] <= r else STAYS for pair in cup])


def rest_of(field, cup, r):
    """The field of the sides that come through all rounds up to r, and the cup of their later games."""
    check_cut(field, cup, r)
    kept = tuple([x for x in range(field.n) if comes_through(cup, x, r)])
    later = [cup[x] for x in kept]
    pairs = [STAYS if lost == 0 else (lost - r, kept.index(y)) for lost, y in later]
    return (kept_field(field, kept), tuple(pairs))


def followed(field, first, second):
    """The cup in which the rounds of second, a cup of the stayers of first, come after those of first."""
    made_cup(field, first)
    kept = round_losers(first, 0)
    made_cup(kept_field(field, kept), second)
    last = last_round(first)
    pairs = list(first)
    for x, (r, y) in zip(kept, second):
        if r > 0:
            pairs[x] = (last + r, kept[y])
    return tuple(pairs)


def bough_of(field, cup, x):
    """The field of the bough of x, and the cup of the games among its sides."""
    kept = bough(field, cup, x)
    told = sorted(set([cup[z][0] for z in kept if z != x]))
    pairs = [STAYS if z == x else (told.index(cup[z][0]) + 1, kept.index(cup[z][1])) for z in kept]
    return (kept_field(field, kept), tuple(pairs))
