"""The numbers of a pool's cups, and drawing cups by digits."""

from boutstairs.cups import made_cup
from boutstairs.errors import BadCount
from boutstairs.poolboards import free_row, open_beaters, told_pairs
from boutstairs.pools import has_cup, size

STEP = 1000003


def check_has_cup(pool, cup):
    """Refuse what is no cup of the pool's field, or not in the pool."""
    made_cup(pool.field, cup)
    if not has_cup(pool, cup):
        raise BadCount(0)


def check_digits(digits):
    """Refuse to draw by no digits."""
    if len(digits) == 0:
        raise BadCount(0)


def last_remainder(digits, modulus):
    """What the digits make of 0, reckoned modulo a number above 0."""
    found = 0
    for digit in digits:
        found = (found * STEP + digit) % modulus
    return found


def figures_of(row, k):
    """The figures of the number k, in the order of the row of free losers."""
    found = []
    left = k
    for _, _, many in row[::-1]:
        found.append(left % many)
        left = left // many
    return found[::-1]


def cup_numbered(pool, k):
    """The cup with number k, which is below the size."""
    row = free_row(pool)
    pairs = told_pairs(pool)
    for (r, x, _), figure in zip(row, figures_of(row, k)):
        pairs[x] = (r, open_beaters(pool, pairs, x)[figure])
    return tuple(pairs)


def nth(pool, k):
    """The cup with number k."""
    if not 0 <= k < size(pool):
        raise BadCount(k)
    return cup_numbered(pool, k)


def number_of(pool, cup):
    """The number of a cup that the pool has."""
    pairs = told_pairs(pool)
    total = 0
    for _, x, many in free_row(pool):
        total = total * many + open_beaters(pool, pairs, x).index(cup[x][1])
        pairs[x] = cup[x]
    return total


def rank(pool, cup):
    """The number of a cup."""
    check_has_cup(pool, cup)
    return number_of(pool, cup)


def drawn(pool, digits):
    """The cup that the digits draw."""
    check_digits(digits)
    return cup_numbered(pool, last_remainder(digits, size(pool)))
