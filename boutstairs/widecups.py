"""Wide cups: cups in which each game has one winner and equally many losers."""

from boutstairs.checks import are_pairs
from boutstairs.cups import check_form, check_no_gap
from boutstairs.errors import BadCount, BadGame, BadWidth, NotSame, Refused
from boutstairs.fieldlooks import can_beat

MOST_LOSERS = 7


def check_width(many):
    """Refuse a number of losers that no game has."""
    if not 1 <= many <= MOST_LOSERS:
        raise BadWidth(many)


def check_beaters(field, pairs):
    """Refuse beaters that are out, or may not beat."""
    for x, (r, y) in enumerate(pairs):
        if r > 0:
            if 0 < pairs[y][0] <= r:
                raise BadGame((x, 1))
            if not can_beat(field, y, x):
                raise BadGame((x, 3))


def losers_by_game(cup):
    """For each game (round, winner) its losers, ascending."""
    found = {}
    for x, (r, y) in enumerate(cup):
        if r > 0:
            found.setdefault((r, y), []).append(x)
    return found


def check_widths(many, pairs):
    """Refuse games that have not so many losers."""
    wrong = [y for (_, y), beaten in losers_by_game(pairs).items() if len(beaten) != many]
    if wrong:
        raise BadCount(min(wrong))


def check_wide(field, many, pairs):
    """Refuse what is no wide cup; the number of losers is known to be let."""
    check_form(field.n, pairs)
    check_no_gap(field.n, pairs)
    check_beaters(field, pairs)
    check_widths(many, pairs)


def check_wide_pair(field, many, one, two):
    """Refuse what are not a number of losers and two wide cups."""
    check_width(many)
    check_wide(field, many, one)
    check_wide(field, many, two)


def are_wide_same(one, two):
    """Whether two wide cups have the same exits and in each round the same winners."""
    return [r for r, _ in one] == [r for r, _ in two] and set(one) == set(two)


def check_wide_same(field, many, one, two):
    """Refuse what are not two wide cups of one class."""
    check_wide_pair(field, many, one, two)
    if not are_wide_same(one, two):
        raise NotSame(0)


def wide_made(field, many, pairs):
    """The wide cup of the field with these pairs."""
    check_width(many)
    check_wide(field, many, pairs)
    return pairs


def wide_is(field, many, pairs):
    """Whether this value, of any form, is a wide cup of the field."""
    check_width(many)
    if not are_pairs(pairs):
        return False
    try:
        check_wide(field, many, pairs)
    except Refused:
        return False
    return True


def wide_games(field, many, cup):
    """Triples (round, winner, losers), ascending."""
    wide_made(field, many, cup)
    return tuple(sorted([(r, y, tuple(beaten)) for (r, y), beaten in losers_by_game(cup).items()]))


def wide_same(field, many, one, two):
    """Whether the wide cups come of one another by deeds."""
    check_wide_pair(field, many, one, two)
    return are_wide_same(one, two)
