"""Chances of seats, all fillings of a board being equally likely."""

from boutstairs.boards import board_count, check_board, check_pairs, is_place
from boutstairs.errors import BadCount, BadPair
from boutstairs.shares import share


def count_with(guards, strengths, pairs):
    """How many fillings have all these pairs."""
    seats = {}
    takers = {}
    for i, j in pairs:
        if strengths[j] < guards[i] or seats.get(i, j) != j or takers.get(j, i) != i:
            return 0
        seats[i] = j
        takers[j] = i
    left = tuple([guard for i, guard in enumerate(guards) if i not in seats])
    return board_count(left, tuple([strength for j, strength in enumerate(strengths) if j not in takers]))


def chance_of(guards, strengths, pairs):
    """The share of the fillings that have all these pairs, which are known to be right."""
    total = board_count(guards, strengths)
    if total == 0:
        raise BadCount(0)
    return share(count_with(guards, strengths, pairs), total)


def board_chance(guards, strengths, i, j):
    """The share of the fillings that give loser i seat j."""
    check_board(guards, strengths)
    if not is_place(guards, strengths, i, j):
        raise BadPair((i, j))
    return chance_of(guards, strengths, ((i, j),))


def boards_chance(guards, strengths, pairs):
    """The share of the fillings that have all these pairs."""
    check_board(guards, strengths)
    check_pairs(guards, strengths, pairs)
    return chance_of(guards, strengths, pairs)
