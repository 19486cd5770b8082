"""Boards: how losers, who have guards, take seats, which have strengths."""

from boutstairs.checks import MOST_SIDES
from boutstairs.errors import BadPair, BadSize
from boutstairs.polys import poly_times


def check_length(numbers):
    """Refuse more losers or seats than a board has."""
    if len(numbers) > MOST_SIDES:
        raise BadSize(len(numbers))


def check_board(guards, strengths):
    """Refuse what is no board."""
    check_length(guards)
    check_length(strengths)


def is_place(guards, strengths, i, j):
    """Whether i is an index of a guard and j one of a strength."""
    return 0 <= i < len(guards) and 0 <= j < len(strengths)


def check_pairs(guards, strengths, pairs):
    """Refuse pairs that are not of a loser and a seat."""
    for index, (i, j) in enumerate(pairs):
        if not is_place(guards, strengths, i, j):
            raise BadPair(index)


def board_row(guards):
    """The losers by guards descending, equal ones by index."""
    check_length(guards)
    return tuple([i for _, i in sorted([(-guard, i) for i, guard in enumerate(guards)])])


def board_choices(guards, strengths):
    """Pairs (loser, choices) in the order of the row."""
    check_board(guards, strengths)
    found = []
    for place, i in enumerate(board_row(guards)):
        room = len([strength for strength in strengths if strength >= guards[i]])
        found.append((i, room - place))
    return tuple(found)


def board_short(guards, strengths):
    """The first loser of the row whose choices are below 1, or None."""
    for i, many in board_choices(guards, strengths):
        if many < 1:
            return i
    return None


def board_count(guards, strengths):
    """The number of fillings."""
    total = 1
    # Choices begin at 0 or more and fall by at most 1 along the row: where some are below 1, some are 0.
    for _, many in board_choices(guards, strengths):
        total = total * many
    return total


def board_rings(guards, strengths):
    """For a filling, at k the number of fillings that have k rings with it."""
    if board_count(guards, strengths) == 0:
        return ()
    found = (1,)
    for _, many in board_choices(guards, strengths):
        found = poly_times(found, (many - 1, 1))
    return found


def seat_choices(guards, strengths):
    """Pairs (seat, choices) by strengths ascending; None unless all seats are taken."""
    if board_count(guards, strengths) == 0 or len(guards) != len(strengths):
        return None
    row = sorted([(strength, j) for j, strength in enumerate(strengths)])
    found = []
    for place, (strength, j) in enumerate(row):
        room = len([guard for guard in guards if guard <= strength])
        found.append((j, room - place))
    return tuple(found)
