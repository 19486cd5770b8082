"""The runs of the fewest deeds: how many there are, and their numbers.

A circle falls into parts, each told by its places in ascending order. A deed splits one part in two.
"""

from math import comb

from boutstairs.circles import GUEST, circles_of
from boutstairs.cups import made_cup
from boutstairs.errors import BadCount, BadRow, TooMany
from boutstairs.runs import check_length
from boutstairs.ways import ways

MOST_MEMBERS = 8


def small_circles(field, one, two, loose):
    """The circles between two cups, none of them too great."""
    circles = circles_of(field, one, two, ways(field, one, two, loose=loose))
    for circle in circles:
        if len(circle.members) > MOST_MEMBERS:
            raise TooMany(len(circle.members))
    return circles


def splits(lets, part):
    """Quadruples (first, second, part, part): the two places that a deed changes, and the parts it makes."""
    found = []
    for i, first in enumerate(part):
        for j in range(i + 1, len(part)):
            second = part[j]
            # Each of the two has the wish of the one before it in its new part.
            if lets[first][part[j - 1]] and lets[second][part[i - 1]]:
                found.append((first, second, part[i:j], part[:i] + part[j:]))
    return found


def part_runs(lets, part, known):
    """How many runs split a part into single ones; known keeps what was counted."""
    if len(part) == 1:
        return 1
    if part not in known:
        total = 0
        for _, _, inner, outer in splits(lets, part):
            # The deeds within the two new parts come in any mixture.
            mixtures = comb(len(part) - 2, len(inner) - 1)
            total = total + mixtures * part_runs(lets, inner, known) * part_runs(lets, outer, known)
        known[part] = total
    return known[part]


class Standing:
    """Circles that fall into parts: pairs (index of the circle, part); known has a dict for each circle."""

    def __init__(self, circles, parts, known):
        self.circles = circles
        self.parts = parts
        self.known = known


def at_the_start(circles):
    """Each circle as one part."""
    parts = [(c, tuple(range(len(circle.members)))) for c, circle in enumerate(circles)]
    return Standing(circles, parts, [{} for _ in circles])


def deeds_left(standing):
    """How many deeds are to come."""
    return sum([len(part) - 1 for _, part in standing.parts])


def runs_left(standing):
    """How many runs lead on to the end."""
    total = 1
    left = deeds_left(standing)
    for c, part in standing.parts:
        total = total * comb(left, len(part) - 1) * part_runs(standing.circles[c].lets, part, standing.known[c])
        left = left - len(part) + 1
    return total


def deed_between(circle, first, second, part):
    """The deed that changes the two at these places of a circle; the part is that in which the first one is."""
    x = circle.members[first]
    y = circle.members[second]
    # The guest has the last place of all, so it is the second one.
    if y == GUEST:
        return ("shift", x, circle.wishes[part[-1]])
    return ("exchange", min(x, y), max(x, y))


def next_deeds(standing):
    """Pairs (deed, what stands behind it) for all deeds that may come next, ascending."""
    found = []
    for at, (c, part) in enumerate(standing.parts):
        circle = standing.circles[c]
        for first, second, inner, outer in splits(circle.lets, part):
            parts = standing.parts[:at] + [(c, inner), (c, outer)] + standing.parts[at + 1:]
            found.append((deed_between(circle, first, second, inner), parts))
    return [(deed, Standing(standing.circles, parts, standing.known)) for deed, parts in sorted(found)]


def shortest_count(field, one, two, *, loose=()):
    """How many runs of the fewest deeds lead from one to two."""
    return runs_left(at_the_start(small_circles(field, one, two, loose)))


def chosen_deed(standing, k):
    """Triples (deed, what stands behind it, k less the runs that begin with lesser deeds) of the k-th run left."""
    left = k
    for deed, ahead in next_deeds(standing):
        many = runs_left(ahead)
        if left < many:
            return (deed, ahead, left)
        left = left - many
    return None


def shortest_at(field, one, two, k, *, loose=()):
    """The run with number k of those of the fewest deeds."""
    standing = at_the_start(small_circles(field, one, two, loose))
    if not 0 <= k < runs_left(standing):
        raise BadCount(k)
    run = []
    left = k
    while deeds_left(standing) > 0:
        deed, standing, left = chosen_deed(standing, left)
        run.append(deed)
    return tuple(run)


def behind_deed(standing, deed):
    """A pair (how many runs begin with lesser deeds, what stands behind this one), None if none begins with it."""
    lesser = 0
    for other, ahead in next_deeds(standing):
        if other == deed:
            return (lesser, ahead)
        lesser = lesser + runs_left(ahead)
    return None


def shortest_rank(field, one, two, run, *, loose=()):
    """The number of this run among those of the fewest deeds."""
    made_cup(field, one)
    made_cup(field, two)
    check_length(run)
    standing = at_the_start(small_circles(field, one, two, loose))
    total = 0
    for index, deed in enumerate(run):
        found = behind_deed(standing, deed)
        if found is None:
            raise BadRow(index)
        lesser, standing = found
        total = total + lesser
    if deeds_left(standing) > 0:
        raise BadRow(len(run))
    return total
