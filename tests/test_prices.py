import heapq
import random

from boutstairs.deeds import offers
from boutstairs.done import done
from boutstairs.errors import BadLoose, BadPrice, BadRow, NotSame, TooMany
from boutstairs.fieldmakes import plain, ranked
from boutstairs.fields import made_field
from boutstairs.pools import pool_of
from boutstairs.prices import least_price, run_price
from boutstairs.rule import run_between
from tests.helpers import S, Case
from tests.listings import listed, some_pools
from tests.test_deeds import NO_DEEDS

TOP = 10 ** 9
HUGE = 10 ** 300
C = ((1, 4), (1, 5), (1, 6), (1, 7), (2, 6), (2, 7), (3, 7), S)
E01, E45 = ("exchange", 0, 1), ("exchange", 4, 5)
BAD_PRICES = (
    (0, ()), (32, (0,) * 32), (33, (-1,) * 33), ((0,), (-1,)), ((1,), (0, TOP + 1, -1)), ((2,), (1, 2, HUGE)),
    ((30,), (TOP,) * 30 + (-HUGE,)))


def cheapest_way(field, one, loose, prices):
    """The least price of a run to each cup that comes of this one, by trying all deeds."""
    found = {}
    queue = [(0, one)]
    while queue:
        total, cup = heapq.heappop(queue)
        if cup not in found:
            found[cup] = total
            for deed in offers(field, cup, loose=loose):
                r = cup[deed[1]][0]
                price = prices[r - 1] if r <= len(prices) else prices[-1]
                heapq.heappush(queue, (total + price, done(field, cup, deed, loose=loose)))
    return found


class Prices(Case):
    def test_least_of_all_runs(self):
        draw = random.Random(50)
        for pool, one in some_pools(51, 40, 4, 7, 60):
            loose = tuple(r for r in range(1, 5) if draw.random() < 0.6)
            kin = listed(pool_of(pool.field, one, loose=loose))
            prices = tuple(draw.choice((0, 1, 2, 5, TOP)) for _ in range(draw.randrange(1, 5)))
            if len(kin) > 100:
                continue
            near = cheapest_way(pool.field, one, loose, prices)
            self.assertEqual(sorted(near), sorted(kin))
            for two in kin:
                self.exactly(least_price(pool.field, one, two, prices, loose=loose), near[two])
                run = run_between(pool.field, one, two, loose=loose)
                self.exactly(run_price(pool.field, one, run, prices, loose=loose), near[two])

    def test_prices_of_rounds(self):
        field = plain(8)
        for prices, total in (((7,), 28), ((1, 10), 22), ((1, 10, 100), 22), ((0, TOP) + (0,) * 29, 2 * TOP)):
            self.gives(run_price, (field, C, (E01, E45, E01, E45), prices), total)
        two = C[:4] + ((2, 7), (2, 6)) + C[6:]
        self.gives(least_price, (field, C, two, (3,)), 3)
        self.gives(least_price, (field, C, two, (3, 5)), 5)
        self.gives(least_price, (field, C, two, (3, 5, 9)), 5)
        chain = made_field((0, 0, 1, 1, 1), (0, 0, 9, 9, 9))
        one, two = ((1, 2), (1, 3), S, S, S), ((1, 3), (1, 4), S, S, S)
        self.exactly(least_price(chain, one, two, (4, 9), loose=(1,)), 8)
        run = (("shift", 1, 4), ("shift", 0, 3))
        self.exactly(run_price(chain, one, run, (4, 9), loose=(1,)), 8)

    def test_edges(self):
        for field, cup in ((plain(1), (S,)), (plain(8), C)):
            self.gives(least_price, (field, cup, cup, (TOP,) * 31), 0)
            self.gives(run_price, (field, cup, (), (TOP,)), 0)
        ladder = tuple((x + 1, 31) for x in range(31)) + (S,)
        moved = ((1, 30),) + ladder[1:]
        prices = tuple(range(5, 36))
        self.exactly(least_price(ranked((0,) * 32), ladder, moved, prices, loose=(1,)), 5)
        moved = ladder[:30] + ((31, 31), S)
        last = ladder[:29] + ((30, 30),) + ladder[30:]
        self.exactly(least_price(ranked((0,) * 32), ladder, last, prices, loose=(30,)), 34)
        self.exactly(least_price(ranked((0,) * 32), ladder, moved, prices, loose=(30,)), 0)
        self.assertEqual(self.soon(run_price, plain(8), C, (E01,) * 1000, (TOP,)), 1000 * TOP)

    def test_errors_of_run_price(self):
        self.asks_cup(run_price, ((),) * 1001, (), loose=(0,))
        self.refused(TooMany, 1001, run_price, plain(8), C, ((),) * 1001, (), loose=(0,))
        for what, prices in BAD_PRICES:
            self.refused(BadPrice, what, run_price, plain(8), C, ((),), prices, loose=(0,))
        self.asks_loose(run_price, plain(8), C, ((),), (1,))
        for deed in NO_DEEDS + (("exchange", 0, 8), ("exchange", 0, 4), ("shift", 0, 5)):
            self.refused(BadRow, 1, run_price, plain(8), C, (E01, deed, ()), (1,))
        self.refused(BadLoose, 0, run_price, plain(8), C, ((),), (TOP,) * 31, loose=(0,))

    def test_errors_of_least_price(self):
        good, other = ((1, 1), S, S, S), ((1, 2), S, S, S)
        self.asks_cup(least_price, (), (), loose=(0,))
        self.asks_second_cup(least_price, good, (), loose=(0,))
        for what, prices in BAD_PRICES:
            self.refused(BadPrice, what, least_price, plain(4), good, other, prices, loose=(0,))
        self.asks_loose(least_price, plain(4), good, other, (0,))
        self.refused(NotSame, 0, least_price, plain(4), good, other, (0,))
        self.refused(NotSame, 0, least_price, plain(4), good, other, (0,), loose=(2,))
        self.exactly(least_price(plain(4), good, other, (0,), loose=(1,)), 0)
