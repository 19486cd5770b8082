"""Wide cups of plain fields in which no side ever rests: their classes and their number."""

from boutstairs.checks import MOST_SIDES
from boutstairs.errors import BadSize
from boutstairs.polys import factorial
from boutstairs.widecups import check_width
from boutstairs.wordrows import WordRows

MOST_ROUNDS = 5


def sides_by_round(many, k):
    """How many sides are left before each of k rounds and at the end, if each game has so many losers."""
    check_width(many)
    if not 0 <= k <= MOST_ROUNDS:
        raise BadSize(k)
    found = [1]
    for _ in range(k):
        found.append(found[-1] * (many + 1))
    if found[-1] > MOST_SIDES:
        raise BadSize(k)
    return found[::-1]


def wide_words(many, k):
    """How many wide classes the wide cups of k rounds without a rest fall into."""
    left = sides_by_round(many, k)
    losing = tuple([before - after for before, after in zip(left, left[1:])])
    # Without a rest whoever comes through wins, so the exits tell the class.
    rows = WordRows(left[0], losing, many)
    return rows.rows_from(rows.start)


def wide_total(many, k):
    """How many wide cups of k rounds without a rest there are."""
    left = sides_by_round(many, k)
    total = factorial(left[0])
    for after in left[1:]:
        for _ in range(after):
            total = total // factorial(many + 1)
    return total
