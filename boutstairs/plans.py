"""Plans: how many games each round has."""

from boutstairs.checks import check_sides
from boutstairs.errors import BadPlan
from boutstairs.polys import factorial


def made_plan(n, plan):
    """The plan, if it is one for n sides."""
    check_sides(n)
    left = n
    for index, many in enumerate(plan):
        if many < 1 or 2 * many > left:
            raise BadPlan(index)
        left = left - many
    return plan


def alive(n, plan):
    """How many sides are left before each round and at the end."""
    made_plan(n, plan)
    found = [n]
    for many in plan:
        found.append(found[-1] - many)
    return tuple(found)


def resting(n, plan):
    """How many of the sides that are left play no game, round by round."""
    return tuple([left - 2 * many for left, many in zip(alive(n, plan), plan)])


def is_full(n, plan):
    """Whether each round halves the sides until one is left."""
    # Whoever halves n to the last side without a rest has n = 1, 2, 4, .., 32.
    return alive(n, plan)[-1] == 1 and not any(resting(n, plan))


def cups_total(n, plan):
    """How many cups of plain(n) have this plan."""
    total = 1
    for left, many in zip(alive(n, plan), plan):
        orders = factorial(left - 2 * many) * factorial(many) * (1 << many)
        total = total * (factorial(left) // orders)
    return total
