"""The text of a pool."""

from boutstairs.errors import BadText
from boutstairs.fieldlooks import can_beat
from boutstairs.fits import are_exits, sides_through
from boutstairs.narrowing import can_be_told
from boutstairs.pools import Pool, size
from boutstairs.textrows import MOST_SMALL, many_behind, numbers_behind, read_head, read_rows, spaced


def pool_text(pool):
    """The text of a pool."""
    rows = [f"pool {pool.field.n}", spaced("exits", pool.exits)]
    rows.extend([spaced("hall", hall) for hall in pool.halls])
    rows.extend([spaced("told", game) for game in pool.told])
    return "\n".join(rows)


def hall_in(row, exits, r):
    """The hall of round r in a row, None if it is bad."""
    hall = numbers_behind(row, "hall", 0, MOST_SMALL)
    # A hall that ascends is what is left of all sides that come through.
    if not hall or tuple([y for y in sides_through(exits, r) if y in hall]) != hall:
        return None
    return hall


def game_in(row, exits, halls):
    """The told game of a row, None if it is bad."""
    game = many_behind(row, "told", 2, 0, len(exits) - 1)
    if game is None:
        return None
    x, y = game
    return game if exits[x] > 0 and y in halls[exits[x] - 1] else None


def games_in(rows, first, exits, halls):
    """The told games of all rows from the index first on."""
    found = []
    for index in range(first, len(rows)):
        game = game_in(rows[index], exits, halls)
        if game is None or found and game <= found[-1]:
            raise BadText(index)
        found.append(game)
    return tuple(found)


def has_cups(pool):
    """Whether some cup has the exits, the halls and the told games of what looks like a pool."""
    if not are_exits(pool.field.n, pool.exits) or not can_be_told(pool):
        return False
    return all(can_beat(pool.field, y, x) for x, y in pool.told) and size(pool) > 0


def pool_from(field, text):
    """The pool of the field in a text."""
    rows = text.split("\n")
    read_head(rows, "pool", field.n, field.n)
    exits = read_rows(rows, 1, 1, lambda row, place: many_behind(row, "exits", field.n, 0, MOST_SMALL))[0]
    halls = read_rows(rows, 2, max(exits), lambda row, place: hall_in(row, exits, place + 1))
    told = games_in(rows, 2 + len(halls), exits, halls)
    pool = Pool(field, exits, halls, told)
    if not has_cups(pool):
        raise BadText(len(rows))
    return pool
