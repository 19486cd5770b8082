"""Too few beaters: which exits and records are those of some cup."""

from boutstairs.boards import board_short
from boutstairs.checks import are_numbers, are_rows, is_number
from boutstairs.errors import BadExit, BadRounds, Refused, Unlike
from boutstairs.records import LOSES, WINS, made_records


def check_exits(n, exits):
    """Refuse what are not exits of n sides, or leave out a round."""
    if len(exits) != n:
        raise Unlike(len(exits))
    for index, r in enumerate(exits):
        if r < 0:
            raise BadExit(index)
    # n sides cannot lose in n rounds and in a later one, too.
    for r in range(1, min(max(exits), n + 1)):
        if r not in exits:
            raise BadRounds(r)


def check_rows(n, rows):
    """Refuse what are not records of n sides."""
    made_records(rows)
    if len(rows) != n:
        raise Unlike(len(rows))


def sides_losing(exits, r):
    """The sides that lose in round r."""
    return tuple([x for x, last in enumerate(exits) if last == r])


def sides_through(exits, r):
    """The sides that come through round r."""
    return tuple([y for y, last in enumerate(exits) if last == 0 or last > r])


def halls_of_exits(exits):
    """The halls with all sides that come through."""
    return tuple([sides_through(exits, r) for r in range(1, max(exits) + 1)])


def exits_of_records(rows):
    """The exit of each side, told by its record."""
    return tuple([len(row) if LOSES in row else 0 for row in rows])


def halls_of_records(rows):
    """The halls with the sides that win by their records."""
    longest = max([len(row) for row in rows])
    sides = list(range(len(rows)))
    return tuple([tuple([y for y in sides if rows[y][i:i + 1] == (WINS,)]) for i in range(longest)])


def short_side(field, losers, hall):
    """The side that is short if these losers need beaters of this hall; None if none is."""
    guards = tuple([field.guards[x] for x in losers])
    place = board_short(guards, tuple([field.strengths[y] for y in hall]))
    return None if place is None else losers[place]


def first_short(field, exits, halls):
    """The pair of the least short round and the side that is short in it; None if no round is short."""
    for r, hall in enumerate(halls, start=1):
        x = short_side(field, sides_losing(exits, r), hall)
        if x is not None:
            return (r, x)
    return None


def short_exits(field, exits):
    """None if these are the exits of some cup; else a round and a side that is short in it."""
    check_exits(field.n, exits)
    return first_short(field, exits, halls_of_exits(exits))


def short_records(field, rows):
    """None if these are the records of some cup; else a round and a side that is short in it."""
    check_rows(field.n, rows)
    return first_short(field, exits_of_records(rows), halls_of_records(rows))


def are_exits(n, exits):
    """Whether this value, of any form, is what check_exits lets."""
    if not are_numbers(exits):
        return False
    try:
        check_exits(n, exits)
    except Refused:
        return False
    return True


def are_halls(exits, halls):
    """Whether this value, of any form, has for each round ascending sides that come through it."""
    if not are_rows(halls) or len(halls) != max(exits):
        return False
    for r, hall in enumerate(halls, start=1):
        # A hall that ascends is what is left of all sides that come through.
        if tuple([y for y in sides_through(exits, r) if y in hall]) != hall:
            return False
    return True


def short_right(field, exits, halls, r, x):
    """Whether these values, of any form, show that x is short in round r."""
    if not are_exits(field.n, exits) or not are_halls(exits, halls) or not is_number(r) or not is_number(x):
        return False
    if not 1 <= r <= len(halls) or x not in sides_losing(exits, r):
        return False
    guard = field.guards[x]
    needing = [z for z in sides_losing(exits, r) if field.guards[z] >= guard]
    return len(needing) > len([y for y in halls[r - 1] if field.strengths[y] >= guard])
