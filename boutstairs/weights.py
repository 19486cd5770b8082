"""Weights of games: the weight of a cup is the product of the numbers of its games."""

from boutstairs.boards import board_row
from boutstairs.boardsets import board_weighed, free_seats
from boutstairs.checks import check_side
from boutstairs.errors import BadWeight
from boutstairs.fieldmakes import put
from boutstairs.gamechances import NEVER
from boutstairs.poolboards import told_pairs
from boutstairs.poolranks import check_digits, last_remainder
from boutstairs.poolsets import few_seated, table_of
from boutstairs.polys import product_of
from boutstairs.shares import share
from boutstairs.tables import check_table


def told_weight(pool, table):
    """The product of the numbers of the told games."""
    return product_of([table[x][y] for x, y in pool.told])


def board_weight(board, table):
    """The sum over all fillings of a board of the products of their numbers."""
    return board_weighed(board.guards, board.strengths, table_of(board, table))


def weight_of(pool, boards, table):
    """The sum of the weights of all cups of a pool, these being its boards with losers."""
    return told_weight(pool, table) * product_of([board_weight(board, table) for board in boards])


def weighed(pool, table):
    """The sum of the weights of the cups of a pool."""
    check_table(pool.field.n, table)
    return weight_of(pool, few_seated(pool), table)


def weighed_chance(pool, table, x, y):
    """The sum of the weights of the cups in which x loses to y, divided by that of all cups."""
    check_table(pool.field.n, table)
    check_side(pool.field.n, x)
    check_side(pool.field.n, y)
    boards = few_seated(pool)
    total = weight_of(pool, boards, table)
    if total == 0:
        raise BadWeight(0)
    if pool.exits[x] == 0:
        return NEVER
    # With no other weight for x, just the cups in which it loses to y are weighed.
    alone = tuple([number if z == y else 0 for z, number in enumerate(table[x])])
    return share(weight_of(pool, boards, put(table, x, alone)), total)


class BoardWeigher:
    """The weights of what the losers of a board may do, in the order of its row.

    A set of taken seats is a number: its bit j is 1 if seat j is taken.
    """

    def __init__(self, board, table):
        self.board = board
        self.table = table_of(board, table)
        self.row = board_row(board.guards)
        self.known = {}

    def options(self, place, taken):
        """Pairs (seat, number) for the loser at this place of the row."""
        i = self.row[place]
        free = free_seats(self.board.guards, self.board.strengths, taken, i)
        return [(j, self.table[i][j]) for j in free]

    def ahead(self, place, taken):
        """The sum of the products of the numbers of the losers from this place on."""
        if place == len(self.row):
            return 1
        if taken not in self.known:
            parts = [number * self.ahead(place + 1, taken | 1 << j) for j, number in self.options(place, taken)]
            self.known[taken] = sum(parts)
        return self.known[taken]

    def chosen(self, place, taken, t, scale):
        """The first seat at which the weights, times scale, come above t; its number, and what is left of t."""
        left = t
        for j, number in self.options(place, taken):
            many = scale * number * self.ahead(place + 1, taken | 1 << j)
            if left < many:
                return (j, number, left)
            left = left - many
        return None


def drawn_by(pool, table, digits):
    """The cup that the digits draw, each as often as its weight says."""
    check_table(pool.field.n, table)
    check_digits(digits)
    boards = few_seated(pool)
    total = weight_of(pool, boards, table)
    if total == 0:
        raise BadWeight(0)
    t = last_remainder(digits, total)
    # The weight of what is settled, times that of all that is not settled yet.
    scale = total
    pairs = told_pairs(pool)
    for board in boards:
        weigher = BoardWeigher(board, table)
        scale = scale // weigher.ahead(0, 0)
        taken = 0
        for place, i in enumerate(weigher.row):
            j, number, t = weigher.chosen(place, taken, t, scale)
            scale = scale * number
            taken = taken | 1 << j
            x = board.losers[i]
            pairs[x] = (pool.exits[x], board.seats[j])
    return tuple(pairs)
