"""The deeds that are let in a cup."""

from boutstairs.checks import check_loose
from boutstairs.cups import made_cup
from boutstairs.done import is_let


def offers(field, cup, *, loose=()):
    """All deeds that are let, ascending."""
    made_cup(field, cup)
    check_loose(loose)
    found = [("exchange", x, y) for x in range(field.n) for y in range(x + 1, field.n)]
    found.extend([("shift", x, y) for x in range(field.n) for y in range(field.n)])
    return tuple([deed for deed in found if is_let(field, cup, deed, loose)])
