"""Seats: rows of sides that are cut into halves, and their least form."""

from boutstairs.checks import check_halving
from boutstairs.errors import BadSeat, Unlike
from boutstairs.polys import factorial


def check_places(seats):
    """Refuse seats in which not each side stands once."""
    stood = {}
    for index, x in enumerate(seats):
        if not 0 <= x < len(seats) or x in stood:
            raise BadSeat(index)
        stood[x] = True


def check_seats(seats, many):
    """Refuse what are not the seats of so many sides."""
    check_halving(len(seats))
    if len(seats) != many:
        raise Unlike(len(seats))
    check_places(seats)


def least_row(seats):
    """The least row that exchanges of halves make of the seats."""
    if len(seats) == 1:
        return seats
    half = len(seats) // 2
    left = least_row(seats[:half])
    right = least_row(seats[half:])
    return min(left + right, right + left)


def least_seats(seats):
    """The least seats that come by exchanging the halves of any blocks."""
    check_seats(seats, len(seats))
    return least_row(seats)


def same_seats(one, two):
    """Whether both seats have the same pairings."""
    check_seats(one, len(one))
    check_seats(two, len(one))
    return least_row(one) == least_row(two)


def pairings(n):
    """How many seats of n sides are the least ones of themselves."""
    check_halving(n)
    return factorial(n) // (1 << (n - 1))
