"""The boards of a pool that are gone through by sets of taken seats."""

from boutstairs.boardsets import check_few_seats
from boutstairs.poolboards import boards_of


def few_seated(pool):
    """The boards that have losers, none of them with too many seats."""
    found = [board for board in boards_of(pool) if len(board.losers) > 0]
    for board in found:
        check_few_seats(board.seats)
    return found


def table_of(board, table):
    """The numbers of a table for the losers and seats of a board."""
    return tuple([tuple([table[x][y] for y in board.seats]) for x in board.losers])
