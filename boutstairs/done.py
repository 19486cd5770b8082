"""Doing a deed: an exchange of two losers, or a shift to a side that rests."""

from boutstairs.checks import check_loose, is_number
from boutstairs.cuplooks import rests
from boutstairs.cups import made_cup
from boutstairs.errors import BadDeed
from boutstairs.fieldlooks import can_beat


def is_deed(deed):
    """Whether a value of any form has the form of a deed."""
    if not isinstance(deed, tuple) or len(deed) != 3:
        return False
    word, x, y = deed
    if not is_number(x) or not is_number(y):
        return False
    return word == "shift" or word == "exchange" and x < y


def has_sides(n, deed):
    """Whether both numbers of a deed are sides."""
    return 0 <= deed[1] < n and 0 <= deed[2] < n


def is_let(field, cup, deed, loose):
    """Whether a deed on sides is let in the cup."""
    word, x, y = deed
    r, beater = cup[x]
    if word == "shift":
        return r in loose and rests(cup, y, r) and can_beat(field, y, x)
    other, second = cup[y]
    return r > 0 and other == r and can_beat(field, second, x) and can_beat(field, beater, y)


def can_do(field, cup, deed, loose):
    """Whether a value of any form is a deed that is let in the cup."""
    return is_deed(deed) and has_sides(field.n, deed) and is_let(field, cup, deed, loose)


def behind(cup, deed):
    """The cup behind a deed that is let."""
    word, x, y = deed
    r, beater = cup[x]
    pairs = list(cup)
    if word == "shift":
        pairs[x] = (r, y)
    else:
        pairs[x] = cup[y]
        pairs[y] = (r, beater)
    return tuple(pairs)


def turned(cup, deed):
    """The deed that takes back a deed that is let."""
    word, x, _ = deed
    return deed if word == "exchange" else ("shift", x, cup[x][1])


def check_deed(field, cup, deed, loose):
    """Refuse what is no cup, or no deed that is let in it."""
    made_cup(field, cup)
    if not is_deed(deed):
        raise BadDeed(0)
    if not has_sides(field.n, deed):
        raise BadDeed(1)
    check_loose(loose)
    if not is_let(field, cup, deed, loose):
        raise BadDeed(2)


def done(field, cup, deed, *, loose=()):
    """The cup behind the deed."""
    check_deed(field, cup, deed, loose)
    return behind(cup, deed)


def back_of(field, cup, deed, *, loose=()):
    """The deed that takes this deed back."""
    check_deed(field, cup, deed, loose)
    return turned(cup, deed)
