import itertools
import math

from boutstairs.errors import BadCount
from boutstairs.polys import choose, factorial, poly_at, poly_plus, poly_times
from tests.helpers import Case

HUGE = 10 ** 200
SOME = [p for many in range(4) for p in itertools.product((-1, 0, 2), repeat=many) if not p or p[-1] != 0]


class Polys(Case):
    def test_sum_and_product_by_their_values(self):
        for a in SOME:
            for b in SOME:
                both, product = poly_plus(a, b), poly_times(a, b)
                for p in (both, product):
                    self.assertIs(type(p), tuple)
                    self.assertTrue(p == () or p[-1] != 0)
                # As many points as there are numbers settle which polynomial it is.
                for x in range(-4, 5):
                    self.assertEqual(poly_at(both, x), poly_at(a, x) + poly_at(b, x))
                    self.assertEqual(poly_at(product, x), poly_at(a, x) * poly_at(b, x))

    def test_numbers(self):
        self.gives(poly_plus, ((1, 2), (3, -2)), (4,))
        self.gives(poly_plus, ((1, -2), (-1, 2)), ())
        self.gives(poly_plus, ((), (0, 5)), (0, 5))
        self.gives(poly_plus, ((), ()), ())
        self.gives(poly_times, ((1, 1), (1, 1)), (1, 2, 1))
        self.gives(poly_times, ((), (1, 1)), ())
        self.gives(poly_times, ((0, 1), (0, 0, HUGE)), (0, 0, 0, HUGE))

    def test_value(self):
        self.gives(poly_at, ((), 5), 0)
        self.gives(poly_at, ((7,), 0), 7)
        self.gives(poly_at, ((1, 2, 3), -2), 9)
        self.gives(poly_at, ((1, 0, 1), HUGE), HUGE * HUGE + 1)


class Choices(Case):
    def test_choose(self):
        for n in range(65):
            for k in range(-2, 68):
                self.gives(choose, (n, k), math.comb(n, k) if k >= 0 else 0)
        self.gives(choose, (0, 0), 1)
        self.gives(choose, (5, 2), 10)
        self.gives(choose, (64, 32), 1832624140942590534)
        for k in (-HUGE, HUGE):
            self.gives(choose, (64, k), 0)

    def test_factorial(self):
        for n in range(65):
            self.gives(factorial, (n,), math.factorial(n))
        self.gives(factorial, (0,), 1)

    def test_out_of_bounds(self):
        for n in (-1, 65, HUGE, -HUGE):
            self.refused(BadCount, n, choose, n, 0)
            self.refused(BadCount, n, choose, n, -1)
            self.refused(BadCount, n, factorial, n)
