"""Shares: fractions as pairs (n, d) in lowest terms, d at least 1."""

from math import gcd

from boutstairs.errors import BadCount


def share(n, d):
    """The share of n / d."""
    if d == 0:
        raise BadCount(0)
    common = gcd(n, d)
    # The lower number of a share is above 0, so a sign goes to the upper one.
    if d < 0:
        common = -common
    return (n // common, d // common)


def plus(a, b):
    """The sum of two shares."""
    return share(a[0] * b[1] + b[0] * a[1], a[1] * b[1])


def times(a, b):
    """The product of two shares."""
    return share(a[0] * b[0], a[1] * b[1])


def less(a, b):
    """Whether share a is less than share b."""
    return a[0] * b[1] < b[0] * a[1]


def mean(shares):
    """The mean of some shares."""
    if len(shares) == 0:
        raise BadCount(0)
    total = (0, 1)
    for part in shares:
        total = plus(total, part)
    return times(total, (1, len(shares)))
