"""Cups: for each side the round in which it loses and its beater, or (0, -1)."""

from boutstairs.checks import are_pairs
from boutstairs.errors import BadGame, BadRounds, Refused, Unlike
from boutstairs.fieldlooks import can_beat

STAYS = (0, -1)


def check_form(n, pairs):
    """Refuse pairs that are neither (0, -1) nor a round and another side."""
    if len(pairs) != n:
        raise Unlike(len(pairs))
    for x, (r, y) in enumerate(pairs):
        loses = r >= 1 and 0 <= y < n and y != x
        if not loses and (r, y) != STAYS:
            raise BadGame((x, 0))


def check_no_gap(n, pairs):
    """Refuse rounds before the last one in which nobody loses."""
    told = {}
    for r, _ in pairs:
        told[r] = True
    # n sides cannot lose in n rounds and in a later one, too.
    for r in range(1, min(max(told), n + 1)):
        if r not in told:
            raise BadRounds(r)


def check_games(field, pairs):
    """Refuse beaters that are out, beat two in a round, or may not beat."""
    beaten = {}
    for x, (r, y) in enumerate(pairs):
        if r > 0:
            if 0 < pairs[y][0] <= r:
                raise BadGame((x, 1))
            if (r, y) in beaten:
                raise BadGame((x, 2))
            if not can_beat(field, y, x):
                raise BadGame((x, 3))
            beaten[(r, y)] = True


def made_cup(field, pairs):
    """The cup of the field with these pairs."""
    check_form(field.n, pairs)
    check_no_gap(field.n, pairs)
    check_games(field, pairs)
    return pairs


def is_cup(field, pairs):
    """Whether this value, of any form, is a cup of the field."""
    if not are_pairs(pairs):
        return False
    try:
        made_cup(field, pairs)
    except Refused:
        return False
    return True
