"""The text of seats."""

from boutstairs.checks import HALVING, MOST_SIDES
from boutstairs.errors import BadText
from boutstairs.seatforms import check_seats
from boutstairs.textrows import numbers_in


def row_text(seats):
    """The text of a row that can be cut into halves until single sides are left."""
    if len(seats) == 1:
        return str(seats[0])
    half = len(seats) // 2
    one = row_text(seats[:half])
    two = row_text(seats[half:])
    return f"({one} {two})"


def seats_text(seats):
    """The text of seats."""
    check_seats(seats, len(seats))
    return row_text(seats)


def are_seats(numbers):
    """Whether these numbers are seats."""
    return len(numbers) in HALVING and sorted(numbers) == list(range(len(numbers)))


def seats_from(text):
    """The seats of a text."""
    seats = numbers_in(text.replace("(", " ").replace(")", " ").split(), 0, MOST_SIDES - 1)
    # Seats have one text only, so the brackets are right if it is this one.
    if seats is None or not are_seats(seats) or row_text(seats) != text:
        raise BadText(0)
    return seats
