"""The boards of a pool's rounds: free losers and free sides of the hall, and the fillings with some games."""

from boutstairs.boardchance import count_with
from boutstairs.boards import board_choices, board_count
from boutstairs.cups import STAYS
from boutstairs.fieldlooks import can_beat


class RoundBoard:
    """The free losers and the free sides of the hall of a round, and the beaters in its told games."""

    def __init__(self, field, losers, seats, told):
        self.losers = losers
        self.seats = seats
        self.told = told
        self.guards = tuple([field.guards[x] for x in losers])
        self.strengths = tuple([field.strengths[y] for y in seats])


def board_of(pool, r):
    """The board of round r of a pool."""
    told = {x: y for x, y in pool.told if pool.exits[x] == r}
    beaters = list(told.values())
    losers = tuple([x for x, last in enumerate(pool.exits) if last == r and x not in told])
    seats = tuple([y for y in pool.halls[r - 1] if y not in beaters])
    return RoundBoard(pool.field, losers, seats, told)


def boards_of(pool):
    """The boards of all rounds in order."""
    return [board_of(pool, r) for r in range(1, len(pool.halls) + 1)]


def fillings_with(board, games):
    """How many fillings give a board all these games (loser, winner), told ones among them."""
    pairs = []
    for x, y in games:
        if board.told.get(x) != y:
            if x not in board.losers or y not in board.seats:
                return 0
            pairs.append((board.losers.index(x), board.seats.index(y)))
    return count_with(board.guards, board.strengths, pairs)


def fillings_without(board, y):
    """How many fillings let y rest, who comes through the round."""
    if y in list(board.told.values()):
        return 0
    strengths = [strength for z, strength in zip(board.seats, board.strengths) if z != y]
    return board_count(board.guards, tuple(strengths))


def loser_choices(board):
    """Pairs (loser, choices) in the order of the row, as sides."""
    return [(board.losers[i], many) for i, many in board_choices(board.guards, board.strengths)]


def free_row(pool):
    """Triples (round, loser, choices) of all free losers, round by round, in the order of the rows."""
    found = []
    for r, board in enumerate(boards_of(pool), start=1):
        found.extend([(r, x, many) for x, many in loser_choices(board)])
    return found


def told_pairs(pool):
    """A cup's pairs with the told games alone; the others lose nowhere yet."""
    pairs = [STAYS] * pool.field.n
    for x, y in pool.told:
        pairs[x] = (pool.exits[x], y)
    return pairs


def open_beaters(pool, pairs, x):
    """Whom x may still lose to beside the games that stand in the pairs, ascending."""
    r = pool.exits[x]
    return [y for y in pool.halls[r - 1] if can_beat(pool.field, y, x) and (r, y) not in pairs]
