"""Fields: the strength and the guard of each side."""

from boutstairs.checks import MOST_SIDES, are_numbers
from boutstairs.errors import BadGuard, BadSize, BadStrength, Refused, Unlike

MOST = 1000000000


class Field:
    """n sides with their strengths and guards; made by functions of the package alone."""

    def __init__(self, strengths, guards):
        self.n = len(strengths)
        self.strengths = strengths
        self.guards = guards


def made_field(strengths, guards):
    """The Field with these strengths and guards."""
    if not 1 <= len(strengths) <= MOST_SIDES:
        raise BadSize(len(strengths))
    for index, strength in enumerate(strengths):
        if not -MOST <= strength <= MOST:
            raise BadStrength(index)
    if len(guards) != len(strengths):
        raise Unlike(len(guards))
    for index, guard in enumerate(guards):
        if not -MOST <= guard <= MOST:
            raise BadGuard(index)
    return Field(strengths, guards)


def is_field(strengths, guards):
    """Whether these values, of any form, are the strengths and guards of a field."""
    if not are_numbers(strengths) or not are_numbers(guards):
        return False
    try:
        made_field(strengths, guards)
    except Refused:
        return False
    return True
