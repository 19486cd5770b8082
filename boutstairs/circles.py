"""Circles: the sides of a ring, or those of a chain and the guest behind them, and their wishes.

Those in a circle are told by their places in it. The wish of a side is its beater in the second cup; that of the
guest is the beater that the first side of the chain has in the first cup.
"""

from boutstairs.fieldlooks import can_beat

GUEST = -1


class Circle:
    """Members, their wishes, and at lets[e][p] whether the one at e may have the wish of the one at p."""

    def __init__(self, members, wishes, lets):
        self.members = members
        self.wishes = wishes
        self.lets = lets


def circle_of(field, one, two, way):
    """The circle of a way from one to two."""
    _, kind, row = way
    members = row
    wishes = tuple([two[x][1] for x in row])
    if kind == "chain":
        members = row + (GUEST,)
        wishes = wishes + (one[row[0]][1],)
    # A wish that the guest has rests, and any side may rest.
    lets = [tuple([x == GUEST or can_beat(field, y, x) for y in wishes]) for x in members]
    return Circle(members, wishes, tuple(lets))


def circles_of(field, one, two, found):
    """The circles of these ways from one to two."""
    return [circle_of(field, one, two, way) for way in found]


def partings(lets):
    """How many partings of a circle do not cross and give each one a wish that it may have.

    In its part each one has the wish of the one before it, the first one that of the last.
    """
    many = len(lets)
    # counts[i][j] is the number for those from i to j - 1 alone.
    counts = [[1] * (many + 1) for _ in range(many + 1)]
    for i in range(many - 1, -1, -1):
        # reach[at] is in how many ways a part goes from i to at, with partings of all that it leaps over.
        reach = {i: 1}
        for at in range(i + 1, many):
            before = [reach[a] * counts[a + 1][at] for a in range(i, at) if lets[at][a]]
            reach[at] = sum(before)
        for j in range(i + 1, many + 1):
            counts[i][j] = sum([reach[last] * counts[last + 1][j] for last in range(i, j) if lets[i][last]])
    return counts[0][many]
