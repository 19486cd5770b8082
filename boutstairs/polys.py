"""Polynomials, as tuples with the number of z ** k at index k and no 0 at the end."""

from math import comb

from boutstairs.errors import BadCount

MOST_THINGS = 64


def trimmed(numbers):
    """The polynomial with these numbers, zeros at the end left out."""
    end = len(numbers)
    while end > 0 and numbers[end - 1] == 0:
        end = end - 1
    return tuple(numbers[:end])


def poly_plus(a, b):
    """The sum of two polynomials."""
    found = [0] * max(len(a), len(b))
    for k, number in enumerate(a):
        found[k] = found[k] + number
    for k, number in enumerate(b):
        found[k] = found[k] + number
    return trimmed(found)


def poly_times(a, b):
    """The product of two polynomials."""
    found = [0] * (len(a) + len(b))
    for i, first in enumerate(a):
        for k, second in enumerate(b):
            found[i + k] = found[i + k] + first * second
    return trimmed(found)


def poly_at(p, x):
    """The value of p at the number x."""
    total = 0
    for number in reversed(p):
        total = total * x + number
    return total


def product_of(numbers):
    """The product of some numbers, 1 if there are none."""
    total = 1
    for number in numbers:
        total = total * number
    return total


def check_things(n):
    """Refuse a number of things that is not 0 to 64."""
    if not 0 <= n <= MOST_THINGS:
        raise BadCount(n)


def choose(n, k):
    """The number of ways to choose k of n things."""
    check_things(n)
    if not 0 <= k <= n:
        return 0
    return comb(n, k)


def factorial(n):
    """The product of the numbers from 1 to n."""
    check_things(n)
    total = 1
    for k in range(2, n + 1):
        total = total * k
    return total
