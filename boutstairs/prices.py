"""Prices of deeds by their rounds."""

from boutstairs.checks import check_loose
from boutstairs.cups import made_cup
from boutstairs.errors import BadPrice, NotSame
from boutstairs.fields import MOST
from boutstairs.rule import way_deeds
from boutstairs.runs import check_length, walked
from boutstairs.ways import are_same, ways_between

MOST_PRICES = 31


def check_prices(prices):
    """Refuse what are not 1 to 31 prices."""
    if not 1 <= len(prices) <= MOST_PRICES:
        raise BadPrice(len(prices))
    for index, price in enumerate(prices):
        if not 0 <= price <= MOST:
            raise BadPrice((index,))


def price_in(prices, r):
    """The price of a deed of round r; the last one is that of all later rounds, too."""
    return prices[min(r, len(prices)) - 1]


def run_price(field, cup, run, prices, *, loose=()):
    """The sum of the prices of a run's deeds."""
    made_cup(field, cup)
    check_length(run)
    check_prices(prices)
    walked(field, cup, run, loose=loose)
    # Deeds leave all exits as they are.
    return sum([price_in(prices, cup[x][0]) for _, x, _ in run])


def least_price(field, one, two, prices, *, loose=()):
    """The least price of a run from one to two."""
    made_cup(field, one)
    made_cup(field, two)
    check_prices(prices)
    check_loose(loose)
    if not are_same(one, two, loose):
        raise NotSame(0)
    return sum([way_deeds(way) * price_in(prices, way[0]) for way in ways_between(one, two)])
