"""Looking at fields: who may beat whom, and the stair row."""

from boutstairs.checks import check_side, check_side_row
from boutstairs.errors import BadPair


def can_beat(field, y, x):
    """Whether side y may beat side x; both are known to be sides."""
    return y != x and field.strengths[y] >= field.guards[x]


def may_beat(field, y, x):
    """Whether y may beat x."""
    check_side(field.n, y)
    check_side(field.n, x)
    return can_beat(field, y, x)


def beaters(field, x):
    """All sides that may beat x."""
    check_side(field.n, x)
    return tuple([y for y in range(field.n) if can_beat(field, y, x)])


def prey(field, y):
    """All sides that y may beat."""
    check_side(field.n, y)
    return tuple([x for x in range(field.n) if can_beat(field, y, x)])


def decided(field, x, y):
    """The one of two sides that may beat the other one, if just one may; else None."""
    if can_beat(field, x, y) == can_beat(field, y, x):
        return None
    return x if can_beat(field, x, y) else y


def winner_of(field, x, y):
    """The one of x and y that may beat the other one, if just one may; else None."""
    check_side(field.n, x)
    check_side(field.n, y)
    if x == y:
        raise BadPair(x)
    return decided(field, x, y)


def is_plain(field):
    """Whether strengths and guards are equal tuples without equal numbers."""
    return field.strengths == field.guards and len(set(field.strengths)) == field.n


def stair_row(field, sides):
    """The sides by guards descending, those of equal guards ascending."""
    check_side_row(field.n, sides)
    return tuple([x for _, x in sorted([(-field.guards[x], x) for x in sides])])
