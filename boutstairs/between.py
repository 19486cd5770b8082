"""The cups between two cups: how many there are, and their numbers."""

from boutstairs.checks import check_loose
from boutstairs.circles import GUEST, circles_of, partings
from boutstairs.cups import made_cup
from boutstairs.errors import BadCount, BadWay, NotSame
from boutstairs.polys import product_of
from boutstairs.rule import distance
from boutstairs.ways import are_same, ways, ways_between


def check_mid(field, one, mid, two, loose):
    """Refuse what are not three cups that are same."""
    for cup in (one, mid, two):
        made_cup(field, cup)
    check_loose(loose)
    if not are_same(one, mid, loose):
        raise NotSame(0)
    if not are_same(one, two, loose):
        raise NotSame(1)


def is_between(one, mid, two):
    """Whether mid is on a run of the fewest deeds from one to two, all being same."""
    return distance(one, mid) + distance(mid, two) == distance(one, two)


def between(field, one, mid, two, *, loose=()):
    """Whether mid is between one and two."""
    check_mid(field, one, mid, two, loose)
    return is_between(one, mid, two)


def between_count(field, one, two, *, loose=()):
    """How many cups are between one and two."""
    circles = circles_of(field, one, two, ways(field, one, two, loose=loose))
    return product_of([partings(circle.lets) for circle in circles])


def places_of(circles):
    """Triples (side, index of its circle, place in it), by side."""
    found = []
    for c, circle in enumerate(circles):
        found.extend([(x, c, e) for e, x in enumerate(circle.members) if x != GUEST])
    return sorted(found)


def narrowings(circle, lets, e):
    """Pairs (wish, what is let if the one at place e has it), by wish."""
    found = []
    for y, p in sorted([(y, p) for p, y in enumerate(circle.wishes) if lets[e][p]]):
        alone = tuple([q == p for q in range(len(lets))])
        found.append((y, lets[:e] + (alone,) + lets[e + 1:]))
    return found


def between_at(field, one, two, k, *, loose=()):
    """The cup with number k of those between one and two."""
    circles = circles_of(field, one, two, ways(field, one, two, loose=loose))
    lets = [circle.lets for circle in circles]
    counts = [partings(circle.lets) for circle in circles]
    if not 0 <= k < product_of(counts):
        raise BadCount(k)
    pairs = list(one)
    left = k
    for x, c, e in places_of(circles):
        others = product_of(counts[:c] + counts[c + 1:])
        found = narrowings(circles[c], lets[c], e)
        for y, narrowed in found:
            many = partings(narrowed)
            if left < many * others:
                pairs[x] = (pairs[x][0], y)
                lets[c] = narrowed
                counts[c] = many
                break
            left = left - many * others
    return tuple(pairs)


def number_between(circles, mid):
    """How many cups between are less than mid, which is between."""
    lets = [circle.lets for circle in circles]
    counts = [partings(circle.lets) for circle in circles]
    total = 0
    for x, c, e in places_of(circles):
        others = product_of(counts[:c] + counts[c + 1:])
        found = narrowings(circles[c], lets[c], e)
        for y, narrowed in found:
            many = partings(narrowed)
            if y == mid[x][1]:
                lets[c] = narrowed
                counts[c] = many
                break
            total = total + many * others
    return total


def between_rank(field, one, mid, two, *, loose=()):
    """The number of mid among the cups between one and two."""
    check_mid(field, one, mid, two, loose)
    if not is_between(one, mid, two):
        raise BadCount(0)
    return number_between(circles_of(field, one, two, ways_between(one, two)), mid)


def taken(field, one, two, which, *, loose=()):
    """The cup in which the sides of these ways have their beaters of two, all others those of one."""
    found = ways(field, one, two, loose=loose)
    pairs = list(one)
    last = -1
    for index, w in enumerate(which):
        if not last < w < len(found):
            raise BadWay(index)
        last = w
        for x in found[w][2]:
            pairs[x] = two[x]
    return tuple(pairs)
