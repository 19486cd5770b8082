"""The rule: how few deeds lead from one cup to another one, and one run of so many."""

from boutstairs.fieldlooks import stair_row
from boutstairs.ways import ways, ways_between


def way_deeds(way):
    """How many deeds one way needs, at least."""
    _, kind, row = way
    return len(row) - 1 if kind == "ring" else len(row)


def distance(one, two):
    """The least number of deeds between two cups that are same."""
    return sum([way_deeds(way) for way in ways_between(one, two)])


def fewest(field, one, two, *, loose=()):
    """The least number of deeds that lead from one to two."""
    return sum([way_deeds(way) for way in ways(field, one, two, loose=loose)])


def ring_deeds(field, one, two, row):
    """The exchanges that give the sides of a ring their beaters of two."""
    beaters = {x: one[x][1] for x in row}
    found = []
    # An exchange gives the first side its beater for good, so one pass along the stair row is enough.
    for x in stair_row(field, tuple(sorted(row))):
        due = two[x][1]
        for y in row:
            if beaters[y] == due and y != x:
                beaters[y] = beaters[x]
                beaters[x] = due
                found.append(("exchange", min(x, y), max(x, y)))
    return found


def chain_deeds(two, row):
    """The shifts that give the sides of a chain their beaters of two."""
    return [("shift", x, two[x][1]) for x in row[::-1]]


def run_between(field, one, two, *, loose=()):
    """A run of the fewest deeds from one to two."""
    found = []
    for _, kind, row in ways(field, one, two, loose=loose):
        if kind == "ring":
            found.extend(ring_deeds(field, one, two, row))
        else:
            found.extend(chain_deeds(two, row))
    return tuple(found)
