"""Wide classes: how many cups they have, the numbers of these, and how few deeds lie between two."""

from boutstairs.checks import check_round
from boutstairs.cuplooks import last_round, round_losers
from boutstairs.cups import STAYS
from boutstairs.done import behind
from boutstairs.errors import BadCount, TooMany
from boutstairs.fieldlooks import can_beat, stair_row
from boutstairs.polys import factorial, product_of
from boutstairs.widecups import check_wide_same, losers_by_game, wide_made
from boutstairs.widedeeds import exchanges_of

MOST_SEARCHED = 500


def game_winners(cup, r):
    """The winners of round r of a wide cup, each once, ascending."""
    return [y for s, y in sorted(losers_by_game(cup)) if s == r]


def round_choices(field, many, cup, r):
    """Pairs (loser, choices) of round r of a wide cup, in the stair row."""
    winners = game_winners(cup, r)
    found = []
    for place, x in enumerate(stair_row(field, round_losers(cup, r))):
        room = many * len([y for y in winners if can_beat(field, y, x)])
        found.append((x, room - place))
    return tuple(found)


def wide_row(field, many, cup):
    """Triples (round, loser, choices) of all losers of a wide cup, round by round, in the stair rows."""
    found = []
    for r in range(1, last_round(cup) + 1):
        found.extend([(r, x, room) for x, room in round_choices(field, many, cup, r)])
    return found


def class_size(field, many, cup):
    """How many cups the class of a wide cup has."""
    seatings = product_of([room for _, _, room in wide_row(field, many, cup)])
    return seatings // product_of([factorial(many) for _ in losers_by_game(cup)])


def wide_choices(field, many, cup, r):
    """Pairs (loser, choices) of round r, in the stair row."""
    wide_made(field, many, cup)
    check_round(r, 1, last_round(cup))
    return round_choices(field, many, cup, r)


def wide_size(field, many, cup):
    """How many cups the wide class has."""
    wide_made(field, many, cup)
    return class_size(field, many, cup)


class Seating:
    """The losers of a wide class that are to be seated yet, one behind the other, and how many cups are left.

    Each game has a seat for each of its losers. A loser takes each seat that it may take in equally many fillings, so
    a game takes it in as many of the cups that are left as its open seats are of the loser's choices.
    """

    def __init__(self, field, many, cup):
        self.field = field
        self.row = wide_row(field, many, cup)
        self.open_seats = {game: many for game in sorted(losers_by_game(cup))}
        self.cups_left = class_size(field, many, cup)

    def openings(self, at):
        """Pairs (beater, how many of the cups that are left) for the loser at a place of the row, ascending."""
        r, x, room = self.row[at]
        found = []
        for (s, y), seats in self.open_seats.items():
            if s == r and can_beat(self.field, y, x):
                found.append((y, self.cups_left * seats // room))
        return found

    def take(self, at, y, many):
        """Seat the loser at a place of the row with y, which leaves so many cups."""
        r = self.row[at][0]
        self.open_seats[(r, y)] = self.open_seats[(r, y)] - 1
        self.cups_left = many


def part_of(parts, k):
    """The part (beater, how many) in which number k falls, and how many cups stand before it."""
    before = 0
    for y, many in parts:
        if k < before + many:
            return (y, many, before)
        before = before + many
    return None


def wide_nth(field, many, cup, k):
    """The cup of the wide class with number k."""
    wide_made(field, many, cup)
    seating = Seating(field, many, cup)
    if not 0 <= k < seating.cups_left:
        raise BadCount(k)
    pairs = [STAYS] * field.n
    left = k
    for at, (r, x, _) in enumerate(list(seating.row)):
        y, part, before = part_of(seating.openings(at), left)
        seating.take(at, y, part)
        left = left - before
        pairs[x] = (r, y)
    return tuple(pairs)


def wide_rank(field, many, cup, other):
    """The number of other in the wide class of cup."""
    check_wide_same(field, many, cup, other)
    seating = Seating(field, many, cup)
    total = 0
    for at, (_, x, _) in enumerate(list(seating.row)):
        parts = seating.openings(at)
        beater = other[x][1]
        total = total + sum([part for y, part in parts if y < beater])
        seating.take(at, beater, dict(parts)[beater])
    return total


def wide_fewest(field, many, one, two):
    """The least number of deeds that lead from one to two."""
    check_wide_same(field, many, one, two)
    size = class_size(field, many, one)
    if size > MOST_SEARCHED:
        raise TooMany(size)
    reached = {one: 0}
    queue = [one]
    # The queue grows while it is gone through, so it is gone through by index.
    at = 0
    while two not in reached:
        cup = queue[at]
        for deed in exchanges_of(field, cup):
            after = behind(cup, deed)
            if after not in reached:
                reached[after] = reached[cup] + 1
                queue.append(after)
        at = at + 1
    return reached[two]
