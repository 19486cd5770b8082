"""Making fields."""

from boutstairs.checks import MOST_SIDES, check_side, check_side_row, check_sides
from boutstairs.errors import BadGuard, BadSize, BadStrength, Unlike
from boutstairs.fieldlooks import can_beat
from boutstairs.fields import MOST, Field, made_field


def plain(n):
    """The field with strengths and guards 0, 1, .., n - 1."""
    check_sides(n)
    return ranked(tuple(range(n)))


def ranked(numbers):
    """The field with these numbers as strengths and as guards."""
    return made_field(numbers, numbers)


def margined(numbers, by):
    """The field with these numbers as strengths, and each less by as its guard."""
    return made_field(numbers, tuple([number - by for number in numbers]))


def put(numbers, index, number):
    """The tuple with this number at the index."""
    return numbers[:index] + (number,) + numbers[index + 1:]


def eased(field, x, strength, guard):
    """The field with a strength not less and a guard not greater for x."""
    check_side(field.n, x)
    if not field.strengths[x] <= strength <= MOST:
        raise BadStrength(strength)
    if not -MOST <= guard <= field.guards[x]:
        raise BadGuard(guard)
    return Field(put(field.strengths, x, strength), put(field.guards, x, guard))


def kept_field(field, sides):
    """The field of these sides alone, numbered anew in their order."""
    if len(sides) == 0:
        raise BadSize(0)
    check_side_row(field.n, sides)
    strengths = tuple([field.strengths[x] for x in sides])
    return Field(strengths, tuple([field.guards[x] for x in sides]))


def beside_fields(one, two):
    """The field with the sides of two behind those of one."""
    if one.n + two.n > MOST_SIDES:
        raise BadSize(one.n + two.n)
    return Field(one.strengths + two.strengths, one.guards + two.guards)


def check_alike(one, two):
    """Refuse fields of unlike numbers of sides."""
    if one.n != two.n:
        raise Unlike(two.n)


def roomier(one, two):
    """Whether no strength is less in two than in one, and no guard greater."""
    check_alike(one, two)
    for x in range(one.n):
        if two.strengths[x] < one.strengths[x] or two.guards[x] > one.guards[x]:
            return False
    return True


def within(one, two):
    """Whether whoever may beat whom in one may in two."""
    check_alike(one, two)
    for x in range(one.n):
        for y in range(one.n):
            if can_beat(one, y, x) and not can_beat(two, y, x):
                return False
    return True
