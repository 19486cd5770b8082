"""Turning games round: the loser of a game takes the place of its winner."""

from boutstairs.checks import check_side
from boutstairs.cups import is_cup, made_cup
from boutstairs.errors import BadDeed, NoGame


def turned_game(cup, x):
    """The pairs with the game that x loses turned round, be they a cup or not."""
    r, y = cup[x]
    pairs = [(s, x) if z == y and s > r else (s, z) for s, z in cup]
    pairs[x] = cup[y]
    pairs[y] = (r, x)
    return tuple(pairs)


def flipped(field, cup, x):
    """The cup in which the game that x loses goes the other way."""
    made_cup(field, cup)
    check_side(field.n, x)
    if cup[x][0] == 0:
        raise NoGame((x, -1))
    pairs = turned_game(cup, x)
    if not is_cup(field, pairs):
        raise BadDeed(2)
    return pairs


def flips(field, cup):
    """The sides whose lost games may go the other way."""
    made_cup(field, cup)
    return tuple([x for x in range(field.n) if cup[x][0] > 0 and is_cup(field, turned_game(cup, x))])
