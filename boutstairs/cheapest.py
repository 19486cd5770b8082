"""The cheapest cups of a pool."""

from boutstairs.boardsets import board_cheapest
from boutstairs.poolboards import told_pairs
from boutstairs.poolsets import few_seated, table_of
from boutstairs.tables import check_table


def cheapest(pool, table):
    """The least price of a cup of the pool, how many cups have it, and the first of these by number."""
    check_table(pool.field.n, table)
    boards = few_seated(pool)
    least = sum([table[x][y] for x, y in pool.told])
    many = 1
    pairs = told_pairs(pool)
    for board in boards:
        price, fillings, filling = board_cheapest(board.guards, board.strengths, table_of(board, table))
        least = least + price
        many = many * fillings
        for x, j in zip(board.losers, filling):
            pairs[x] = (pool.exits[x], board.seats[j])
    return (least, many, tuple(pairs))
