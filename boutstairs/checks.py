"""What the files of the package ask of arguments; each question stands here once."""

from boutstairs.errors import BadLoose, BadRound, BadSide, BadSize

MOST_SIDES = 32
HALVING = (1, 2, 4, 8, 16, 32)


def is_number(value):
    """Whether value is an int that is neither True nor False."""
    return isinstance(value, int) and not isinstance(value, bool)


def are_numbers(value):
    """Whether value is a tuple of numbers."""
    return isinstance(value, tuple) and all(is_number(part) for part in value)


def are_rows(value):
    """Whether value is a tuple of tuples of numbers."""
    return isinstance(value, tuple) and all(are_numbers(part) for part in value)


def are_pairs(value):
    """Whether value is a tuple of pairs of numbers."""
    return are_rows(value) and all(len(part) == 2 for part in value)


def check_sides(n):
    """Refuse a number of sides that is not 1 to 32."""
    if not 1 <= n <= MOST_SIDES:
        raise BadSize(n)


def check_halving(n):
    """Refuse a number of sides that cannot be halved until one is left."""
    if n not in HALVING:
        raise BadSize(n)


def check_side(n, x):
    """Refuse what is none of n sides."""
    if not 0 <= x < n:
        raise BadSide(x)


def check_side_row(n, sides):
    """Refuse a tuple whose numbers are not ascending ones of n sides."""
    last = -1
    for x in sides:
        if not last < x < n:
            raise BadSide(x)
        last = x


def check_round(r, least, most):
    """Refuse a round that is not from least to most."""
    if not least <= r <= most:
        raise BadRound(r)


def check_loose(loose):
    """Refuse loose rounds that do not ascend from 1 on."""
    last = 0
    for index, r in enumerate(loose):
        if r <= last:
            raise BadLoose(index)
        last = r
