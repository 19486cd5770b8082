import itertools

from boutstairs.errors import BadCount, BadPlan, BadRecord, BadSide, BadSize
from boutstairs.ledgerranks import ledger_rank, nth_ledger, record_chances
from boutstairs.ledgers import ledger_fits, ledgers_count
from boutstairs.planmakers import full, ladder, quick
from boutstairs.plans import cups_total
from boutstairs.shares import mean, share, times
from tests.helpers import Case
from tests.plancups import plain_record, plan_cups, plans_of, some_rows

HUGE = 10 ** 300


def ledger_of(cup):
    """The records of a cup from the strongest side down."""
    return tuple(plain_record(cup, x) for x in range(len(cup) - 1, -1, -1))


class Listed(Case):
    def test_all_plans_of_few_sides(self):
        for n in range(1, 9):
            for plan in plans_of(n):
                if cups_total(n, plan) <= 450:
                    self.told(n, plan, plan_cups(n, plan))

    def told(self, n, plan, cups):
        ledgers = sorted({ledger_of(cup) for cup in cups})
        self.gives(ledgers_count, (n, plan), len(ledgers))
        for k, ledger in enumerate(ledgers):
            self.gives(nth_ledger, (n, plan, k), ledger)
            self.gives(ledger_rank, (n, plan, ledger), k)
        for k in (-1, len(ledgers), HUGE, -HUGE):
            self.refused(BadCount, k, nth_ledger, n, plan, k)
        for x in range(n):
            rows = [plain_record(cup, x) for cup in cups]
            expected = tuple((row, share(rows.count(row), len(rows))) for row in sorted(set(rows)))
            self.gives(record_chances, (n, plan, x), expected)

    def test_tables_that_are_no_ledgers(self):
        for n, plan in ((1, ()), (2, (1,)), (3, (1,)), (3, (1, 1)), (4, (2, 1)), (4, (1, 1))):
            ledgers = {ledger_of(cup) for cup in plan_cups(n, plan)}
            begun = {ledger[:many] for ledger in ledgers for many in range(n + 1)}
            for rows in itertools.product(some_rows((1, 0, -1), 2), repeat=n):
                if rows not in ledgers:
                    bad = min(index for index in range(n) if rows[:index + 1] not in begun)
                    self.refused(BadRecord, (bad,), ledger_rank, n, plan, rows)


class Edges(Case):
    def test_examples(self):
        self.gives(record_chances, (3, (1,), 1), (((-1,), (1, 3)), ((0,), (1, 3)), ((1,), (1, 3))))
        self.gives(nth_ledger, (4, full(4), 0), ((1, 1), (-1,), (1, -1), (-1,)))
        self.gives(nth_ledger, (4, full(4), 1), ((1, 1), (1, -1), (-1,), (-1,)))

    def test_no_rounds(self):
        for n in range(1, 9):
            self.gives(nth_ledger, (n, (), 0), ((),) * n)
            self.gives(ledger_rank, (n, (), ((),) * n), 0)
            self.gives(record_chances, (n, (), n - 1), (((), (1, 1)),))
            self.refused(BadCount, 1, nth_ledger, n, (), 1)

    def test_great_plans_come_soon(self):
        for n, plan in ((8, ladder(8)), (8, full(8)), (7, quick(7)), (8, (1, 2, 1, 1)), (8, (3, 1, 1, 1, 1))):
            many = self.soon(ledgers_count, n, plan)
            for k in (0, many // 3, many // 2, many - 1):
                ledger = self.soon(nth_ledger, n, plan, k)
                self.is_yes(ledger_fits(n, plan, ledger))
                self.assertEqual(self.soon(ledger_rank, n, plan, ledger), k)
            for x in (0, n // 2, n - 1):
                found = self.soon(record_chances, n, plan, x)
                self.assertEqual([row for row, _ in found], sorted({row for row, _ in found}))
                self.assertEqual(mean(tuple(part for _, part in found)), share(1, len(found)))

    def test_the_weakest_side_of_a_ladder(self):
        # It loses the first game that it plays; of a sides it plays with the chance 2 / a.
        expected, still = [], (1, 1)
        for r, left in enumerate(range(8, 1, -1)):
            expected.append(((0,) * r + (-1,), times(still, share(2, left))))
            still = times(still, share(left - 2, left))
        self.gives(record_chances, (8, ladder(8), 0), tuple(expected))


class Errors(Case):
    def test_sizes_and_plans_first(self):
        for call, more in ((nth_ledger, (-1,)), (ledger_rank, ((),)), (record_chances, (-1,))):
            for n in (0, 9, 32, 33, -1, HUGE):
                self.refused(BadSize, n, call, n, (0,), *more)
            for index, n, plan in ((0, 4, (0,)), (0, 4, (3,)), (1, 4, (2, 2)), (2, 4, (2, 1, 1)), (0, 1, (1,)),
                                   (1, 8, (4, -1)), (0, 8, (HUGE,)), (7, 8, (1,) * 8)):
                self.refused(BadPlan, index, call, n, plan, *more)

    def test_ledgers(self):
        plan = full(4)
        good = ((1, 1), (1, -1), (-1,), (-1,))
        self.gives(ledger_rank, (4, plan, good), 1)
        for many in (0, 3, 5, 100):
            self.refused(BadRecord, many, ledger_rank, 4, plan, ((9,),) * many)
        for index, rows in ((0, ((1,),) + good[1:]), (0, ((-1,), (1, 1), (1, -1), (-1,))), (1, good[:1] * 2 + good[2:]),
                            (2, good[:2] * 2), (3, good[:3] + ((1, -1),)), (3, good[:3] + ((),)),
                            (1, good[:1] + ((HUGE,),) + good[2:]), (0, ((-HUGE,) * 1000,) + good[1:]),
                            (0, ((),) * 4), (2, good[:2] + ((-1, 0), (-1,)))):
            self.refused(BadRecord, (index,), ledger_rank, 4, plan, rows)

    def test_sides(self):
        for bad in (-1, 4, HUGE):
            self.refused(BadSide, bad, record_chances, 4, full(4), bad)
