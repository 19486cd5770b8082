"""Sums over all fillings of a board, by the sets of seats that are taken.

A set of seats is a number here: its bit j is 1 if seat j is taken.
"""

from boutstairs.boards import board_row, check_board, check_pairs
from boutstairs.errors import BadCount, BadPrice, TooMany
from boutstairs.fields import MOST
from boutstairs.polys import poly_plus, poly_times

MOST_SEATS = 10


def check_few_seats(strengths):
    """Refuse more seats than can be gone through by sets."""
    if len(strengths) > MOST_SEATS:
        raise TooMany(len(strengths))


def check_table(guards, strengths, table):
    """Refuse a table without a row for each loser and a number for each seat."""
    if len(table) != len(guards):
        raise BadPrice(len(table))
    for i, row in enumerate(table):
        if len(row) != len(strengths) or any(not 0 <= number <= MOST for number in row):
            raise BadPrice((i,))


def free_seats(guards, strengths, taken, i):
    """The seats that loser i may take beside those that are taken."""
    return [j for j, strength in enumerate(strengths) if strength >= guards[i] and not taken >> j & 1]


def board_marks(guards, strengths, pairs):
    """At k the number of fillings that have just k of these pairs."""
    check_board(guards, strengths)
    check_pairs(guards, strengths, pairs)
    check_few_seats(strengths)
    sums = {0: (1,)}
    for i in board_row(guards):
        after = {}
        for taken, poly in sums.items():
            for j in free_seats(guards, strengths, taken, i):
                more = poly_times(poly, (0, 1)) if (i, j) in pairs else poly
                both = taken | 1 << j
                after[both] = poly_plus(after.get(both, ()), more)
        sums = after
    total = ()
    for poly in sums.values():
        total = poly_plus(total, poly)
    return total


def board_weighed(guards, strengths, table):
    """The sum over all fillings of the products of their numbers."""
    check_board(guards, strengths)
    check_table(guards, strengths, table)
    check_few_seats(strengths)
    sums = {0: 1}
    for i in board_row(guards):
        after = {}
        for taken, weight in sums.items():
            for j in free_seats(guards, strengths, taken, i):
                both = taken | 1 << j
                after[both] = after.get(both, 0) + weight * table[i][j]
        sums = after
    return sum(sums.values())


def cheaper(one, two):
    """The better one of two triples (sum, how many, seats), joined if the sums are equal."""
    if one is None or two[0] < one[0]:
        return two
    if one[0] < two[0]:
        return one
    return (one[0], one[1] + two[1], min(one[2], two[2]))


def board_cheapest(guards, strengths, table):
    """The least sum of a filling, how many fillings have it, and the first of these."""
    check_board(guards, strengths)
    check_table(guards, strengths, table)
    check_few_seats(strengths)
    row = board_row(guards)
    best = {0: (0, 1, ())}
    for i in row:
        after = {}
        for taken, (total, many, seats) in best.items():
            for j in free_seats(guards, strengths, taken, i):
                both = taken | 1 << j
                after[both] = cheaper(after.get(both), (total + table[i][j], many, seats + (j,)))
        best = after
    found = None
    for triple in best.values():
        found = cheaper(found, triple)
    if found is None:
        raise BadCount(0)
    filling = [0] * len(guards)
    for place, i in enumerate(row):
        filling[i] = found[2][place]
    return (found[0], found[1], tuple(filling))
