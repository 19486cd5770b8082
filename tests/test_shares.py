from fractions import Fraction

from boutstairs.errors import BadCount
from boutstairs.shares import less, mean, plus, share, times
from tests.helpers import Case

HUGE = 10 ** 300


def of(fraction):
    return (fraction.numerator, fraction.denominator)


SOME = [of(Fraction(n, d)) for n in range(-7, 8) for d in range(1, 7)]


class Shares(Case):
    def test_share(self):
        for n in range(-30, 31):
            for d in list(range(-12, 0)) + list(range(1, 13)):
                self.gives(share, (n, d), of(Fraction(n, d)))
        self.gives(share, (0, -7), (0, 1))
        self.gives(share, (6 * HUGE, -4 * HUGE), (-3, 2))
        self.gives(share, (HUGE, 1), (HUGE, 1))
        self.gives(share, (-1, -HUGE), (1, HUGE))

    def test_share_of_nothing(self):
        for n in (0, 1, -1, HUGE):
            self.refused(BadCount, 0, share, n, 0)

    def test_sum_product_and_order(self):
        for a in SOME:
            for b in SOME:
                one, two = Fraction(*a), Fraction(*b)
                self.gives(plus, (a, b), of(one + two))
                self.gives(times, (a, b), of(one * two))
                self.assertIs(less(a, b), one < two)

    def test_mean(self):
        self.gives(mean, (((1, 2),),), (1, 2))
        self.gives(mean, (((1, 2), (1, 3), (1, 6)),), (1, 3))
        self.gives(mean, (((-1, 2), (1, 2)),), (0, 1))
        self.gives(mean, (tuple(SOME),), of(sum(Fraction(*a) for a in SOME) / len(SOME)))
        self.refused(BadCount, 0, mean, ())
