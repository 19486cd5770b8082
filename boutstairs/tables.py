"""Prices of games: what cups cost."""

from boutstairs.cups import made_cup
from boutstairs.errors import BadPrice, TooMany
from boutstairs.fields import MOST
from boutstairs.gamechances import NEVER, beater_chances, fillings_of
from boutstairs.poolboards import boards_of, fillings_with
from boutstairs.shares import plus, share

MOST_VARIED = 16


def check_table(n, table):
    """Refuse what is no price table for n sides."""
    if len(table) != n:
        raise BadPrice(len(table))
    for x, row in enumerate(table):
        if len(row) != n or any(not 0 <= price <= MOST for price in row):
            raise BadPrice((x,))


def cup_price(field, cup, table):
    """The sum of the prices of a cup's games."""
    made_cup(field, cup)
    check_table(field.n, table)
    return sum([table[x][y] for x, (r, y) in enumerate(cup) if r > 0])


def mean_price(pool, table):
    """The mean of the prices of the cups of a pool."""
    check_table(pool.field.n, table)
    total = NEVER
    for x in range(pool.field.n):
        for y, (n, d) in beater_chances(pool, x):
            total = plus(total, share(n * table[x][y], d))
    return total


def round_variance(board, table):
    """The variance of the sum of the prices of a round's games, told ones left out."""
    games = [(x, y) for x in board.losers for y in board.seats]
    fillings = fillings_of(board)
    sums = 0
    squares = 0
    for one in games:
        price = table[one[0]][one[1]]
        many = fillings_with(board, (one,))
        sums = sums + price * many
        squares = squares + price * price * many
        for two in games:
            # Each two games of different losers are met once.
            if one[0] < two[0]:
                squares = squares + 2 * price * table[two[0]][two[1]] * fillings_with(board, (one, two))
    return share(squares * fillings - sums * sums, fillings * fillings)


def price_variance(pool, table):
    """The mean of the square of how far a cup's price is from the mean price."""
    check_table(pool.field.n, table)
    if pool.field.n > MOST_VARIED:
        raise TooMany(pool.field.n)
    total = NEVER
    # The rounds are independent of one another.
    for board in boards_of(pool):
        total = plus(total, round_variance(board, table))
    return total
