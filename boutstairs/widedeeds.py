"""Deeds in wide cups: exchanges of two losers of a round."""

from boutstairs.cuplooks import last_round, round_losers
from boutstairs.done import behind, has_sides, is_deed, is_let
from boutstairs.errors import BadDeed, BadRow
from boutstairs.fieldlooks import stair_row
from boutstairs.runs import check_length
from boutstairs.widecups import check_wide_same, wide_made


def is_exchange(deed):
    """Whether a value of any form has the form of an exchange."""
    return is_deed(deed) and deed[0] == "exchange"


def is_wide_let(field, cup, deed):
    """Whether an exchange of sides is let in a wide cup."""
    _, x, y = deed
    return cup[x] != cup[y] and is_let(field, cup, deed, ())


def wide_done(field, many, cup, deed):
    """The wide cup behind the deed."""
    wide_made(field, many, cup)
    if not is_exchange(deed):
        raise BadDeed(0)
    if not has_sides(field.n, deed):
        raise BadDeed(1)
    if not is_wide_let(field, cup, deed):
        raise BadDeed(2)
    return behind(cup, deed)


def wide_walked(field, many, cup, run):
    """The wide cup to which the run leads."""
    wide_made(field, many, cup)
    check_length(run)
    found = cup
    for index, deed in enumerate(run):
        if not is_exchange(deed) or not has_sides(field.n, deed) or not is_wide_let(field, found, deed):
            raise BadRow(index)
        found = behind(found, deed)
    return found


def exchanges_of(field, cup):
    """All deeds that are let in a wide cup, ascending."""
    found = [("exchange", x, y) for x in range(field.n) for y in range(x + 1, field.n)]
    return tuple([deed for deed in found if is_wide_let(field, cup, deed)])


def wide_offers(field, many, cup):
    """All deeds that are let, ascending."""
    wide_made(field, many, cup)
    return exchanges_of(field, cup)


def next_exchange(field, cup, two, r):
    """The deed that gives the first wrong loser of round r its beater of two; None if none is wrong."""
    losing = round_losers(cup, r)
    for x in stair_row(field, losing):
        if cup[x] != two[x]:
            y = min([z for z in losing if cup[z] == two[x] and two[z] != two[x]])
            return ("exchange", min(x, y), max(x, y))
    return None


def wide_run(field, many, one, two):
    """A run from one to two, shorter than there are losers with wrong beaters."""
    check_wide_same(field, many, one, two)
    found = []
    cup = one
    for r in range(1, last_round(one) + 1):
        deed = next_exchange(field, cup, two, r)
        while deed is not None:
            found.append(deed)
            cup = behind(cup, deed)
            deed = next_exchange(field, cup, two, r)
    return tuple(found)


def wrong(field, many, one, two):
    """How many losers have different beaters in both."""
    check_wide_same(field, many, one, two)
    return len([x for x in range(field.n) if one[x] != two[x]])
