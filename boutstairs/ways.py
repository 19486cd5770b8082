"""Which cups are same, and the ways in which sides change places between them."""

from boutstairs.checks import check_loose
from boutstairs.cuplooks import last_round, round_losers, round_winners
from boutstairs.cups import made_cup
from boutstairs.errors import NotSame


def check_cups(field, one, two, loose):
    """Refuse what are not two cups and loose rounds."""
    made_cup(field, one)
    made_cup(field, two)
    check_loose(loose)


def are_same(one, two, loose):
    """Whether two cups of a field have equal exits, and equal winners where it is not loose."""
    if [r for r, _ in one] != [r for r, _ in two]:
        return False
    for r in range(1, last_round(one) + 1):
        if r not in loose and round_winners(one, r) != round_winners(two, r):
            return False
    return True


def steps_of(one, two, r):
    """Whom each loser of round r goes to, None if to nobody; no side that keeps its beater."""
    takers = {}
    for x in round_losers(one, r):
        takers[one[x][1]] = x
    moving = [x for x in round_losers(one, r) if one[x] != two[x]]
    return {x: takers.get(two[x][1]) for x in moving}


def row_from(steps, first):
    """The sides from this one on, each followed by the one it goes to."""
    row = [first]
    at = steps[first]
    while at is not None and at != first:
        row.append(at)
        at = steps[at]
    return tuple(row)


def round_ways(one, two, r):
    """The ways of round r, by their least sides."""
    steps = steps_of(one, two, r)
    reached = list(steps.values())
    found = [(r, "chain", row_from(steps, x)) for x in steps if x not in reached]
    placed = [x for _, _, row in found for x in row]
    for x in steps:
        # Rings are met in ascending order, so at their least sides.
        if x not in placed:
            row = row_from(steps, x)
            found.append((r, "ring", row))
            placed.extend(row)
    return [way for _, way in sorted([(min(way[2]), way) for way in found])]


def ways_between(one, two):
    """The ways between two cups that are same."""
    return tuple([way for r in range(1, last_round(one) + 1) for way in round_ways(one, two, r)])


def same(field, one, two, *, loose=()):
    """Whether the cups come of one another by deeds."""
    check_cups(field, one, two, loose)
    return are_same(one, two, loose)


def ways(field, one, two, *, loose=()):
    """The ways from one to two: triples (round, kind, row)."""
    check_cups(field, one, two, loose)
    if not are_same(one, two, loose):
        raise NotSame(0)
    return ways_between(one, two)
