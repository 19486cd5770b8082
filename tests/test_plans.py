import math

from boutstairs.errors import BadPlan, BadSize
from boutstairs.fieldmakes import plain
from boutstairs.planmakers import byes_first, full, ladder, plan_count, quick
from boutstairs.plans import alive, cups_total, is_full, made_plan, resting
from tests.helpers import Case, cups_of

HUGE = 10 ** 300
LOOKS = (made_plan, alive, resting, is_full, cups_total)
POWERS = (1, 2, 4, 8, 16, 32)


def all_plans(n):
    """All plans for n sides."""
    found = [()]
    for many in range(1, n // 2 + 1):
        found.extend((many,) + plan for plan in all_plans(n - many))
    return found


class Plans(Case):
    def test_plans_told(self):
        self.gives(made_plan, (5, (1, 2, 1)), (1, 2, 1))
        self.gives(alive, (5, (1, 2, 1)), (5, 4, 2, 1))
        self.gives(resting, (5, (1, 2, 1)), (3, 0, 0))
        self.gives(cups_total, (5, (1, 2, 1)), 10 * 3 * 1)
        for n in (1, 2, 32):
            self.gives(made_plan, (n, ()), ())
            self.gives(alive, (n, ()), (n,))
            self.gives(resting, (n, ()), ())
            self.gives(cups_total, (n, ()), 1)
        self.gives(alive, (32, (16,)), (32, 16))
        self.gives(resting, (32, (15,)), (2,))

    def test_plans_listed(self):
        for n in range(1, 8):
            for plan in all_plans(n):
                left = [n - sum(plan[:k]) for k in range(len(plan) + 1)]
                self.gives(made_plan, (n, plan), plan)
                self.gives(alive, (n, plan), tuple(left))
                self.gives(resting, (n, plan), tuple(a - 2 * m for a, m in zip(left, plan)))
                self.gives(is_full, (n, plan), n in POWERS and plan == full(n))

    def test_cups_total_by_listing(self):
        for n in range(1, 6):
            counts = {}
            for cup in cups_of(plain(n)):
                last = max(r for r, _ in cup)
                plan = tuple(sum(r == lost for lost, _ in cup) for r in range(1, last + 1))
                counts[plan] = counts.get(plan, 0) + 1
            self.assertEqual(sorted(counts), sorted(all_plans(n)))
            for plan, many in counts.items():
                self.gives(cups_total, (n, plan), many)

    def test_cups_total_of_many_sides(self):
        total = self.soon(cups_total, 32, full(32))
        self.assertEqual(total, math.factorial(32) // 2 ** 31)
        self.assertEqual(self.soon(cups_total, 32, ladder(32)), math.prod(a * (a - 1) // 2 for a in range(2, 33)))

    def test_full(self):
        for n in POWERS:
            self.gives(is_full, (n, full(n)), True)
        self.gives(is_full, (32, full(32)[:-1]), False)
        self.gives(is_full, (3, (1, 1)), False)
        self.gives(is_full, (6, (3, 1, 1)), False)
        self.gives(is_full, (4, (1, 1, 1)), False)
        self.gives(is_full, (2, ()), False)

    def test_errors(self):
        for look in LOOKS:
            for n in (0, -1, 33, HUGE, -HUGE):
                self.refused(BadSize, n, look, n, (0, 0))
            self.refused(BadPlan, 0, look, 1, (1,))
            self.refused(BadPlan, 1, look, 4, (2, 0, 9))
            self.refused(BadPlan, 1, look, 4, (2, -HUGE))
            self.refused(BadPlan, 0, look, 4, (3, 0))
            self.refused(BadPlan, 0, look, 5, (3, 1))
            self.refused(BadPlan, 2, look, 4, (2, 1, 1))
            self.refused(BadPlan, 0, look, 32, (17,))
            self.refused(BadPlan, 1, look, 32, (16, HUGE))


class Makers(Case):
    def test_makers_told(self):
        self.gives(full, (1,), ())
        self.gives(full, (2,), (1,))
        self.gives(full, (32,), (16, 8, 4, 2, 1))
        self.gives(quick, (1,), ())
        self.gives(quick, (7,), (3, 2, 1))
        self.gives(quick, (11,), (5, 3, 1, 1))
        self.gives(quick, (32,), (16, 8, 4, 2, 1))
        self.gives(byes_first, (1,), ())
        self.gives(byes_first, (3,), (1, 1))
        self.gives(byes_first, (7,), (3, 2, 1))
        self.gives(byes_first, (11,), (3, 4, 2, 1))
        self.gives(byes_first, (31,), (15, 8, 4, 2, 1))
        self.gives(byes_first, (32,), (16, 8, 4, 2, 1))
        self.gives(ladder, (1,), ())
        self.gives(ladder, (5,), (1, 1, 1, 1))
        self.gives(ladder, (32,), (1,) * 31)

    def test_makers_by_their_rule(self):
        for n in range(1, 33):
            for plan in (quick(n), byes_first(n), ladder(n)):
                self.assertEqual(alive(n, plan)[-1], 1)
            self.assertTrue(all(rest < 2 for rest in resting(n, quick(n))))
            powers = alive(n, byes_first(n))
            self.assertTrue(all(left in POWERS for left in powers[1:]))
            if n in POWERS:
                self.assertEqual(quick(n), full(n))
                self.assertEqual(byes_first(n), full(n))
            else:
                self.assertEqual(powers[1], max(p for p in POWERS if p < n))
                self.assertTrue(not any(resting(n, byes_first(n))[1:]))

    def test_plan_count(self):
        self.gives(plan_count, (1,), 1)
        for n in range(1, 13):
            self.gives(plan_count, (n,), sum(n - sum(plan) == 1 for plan in all_plans(n)))
        counts = {1: 1}
        for n in range(2, 33):
            counts[n] = sum(counts[n - m] for m in range(1, n // 2 + 1))
        self.assertEqual(self.soon(plan_count, 32), counts[32])

    def test_errors(self):
        for call in (full, quick, byes_first, ladder, plan_count):
            for n in (0, -1, 33, 64, HUGE, -HUGE):
                self.refused(BadSize, n, call, n)
        for n in (3, 5, 6, 7, 12, 31):
            self.refused(BadPlan, n, full, n)
