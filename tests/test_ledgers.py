import itertools

from boutstairs.errors import BadPlan, BadSize
from boutstairs.fieldmakes import plain
from boutstairs.ledgers import ledger_fits, ledger_size, ledgers_count
from boutstairs.planmakers import full, ladder
from boutstairs.plans import cups_total
from boutstairs.pools import pool_of_records, size
from tests.helpers import ODD, Case, with_odd_parts
from tests.plancups import plain_record, plan_cups, plans_of, some_rows

HUGE = 10 ** 300


def ledgers_of(n, plan):
    """How many cups have each ledger of a plan."""
    sizes = {}
    for cup in plan_cups(n, plan):
        ledger = tuple(plain_record(cup, x) for x in range(n - 1, -1, -1))
        sizes[ledger] = sizes.get(ledger, 0) + 1
    return sizes


class Listed(Case):
    def test_all_plans_of_few_sides(self):
        for n in range(1, 9):
            for plan in plans_of(n):
                if cups_total(n, plan) <= 1500:
                    sizes = ledgers_of(n, plan)
                    self.gives(ledgers_count, (n, plan), len(sizes))
                    for ledger in sizes:
                        self.gives(ledger_size, (n, plan, ledger), sizes[ledger])
                        self.gives(ledger_fits, (n, plan, ledger), True)
                        self.exactly(size(pool_of_records(plain(n), ledger[::-1])), sizes[ledger])

    def test_all_tables_of_few_rows(self):
        for n, plan in ((1, ()), (2, ()), (2, (1,)), (3, (1,)), (3, (1, 1)), (4, (2, 1)), (4, (1, 1))):
            sizes = ledgers_of(n, plan)
            for rows in itertools.product(some_rows((1, 0, -1), 2), repeat=n):
                self.assertIs(ledger_fits(n, plan, rows), rows in sizes)
                self.assertEqual(ledger_size(n, plan, rows), sizes.get(rows, 0))

    def test_no_ledgers(self):
        for n, plan in ((5, (1, 2, 1)), (6, (2, 1)), (8, full(8))):
            sizes = ledgers_of(n, plan)
            for ledger in sizes:
                for rows in itertools.islice(self.neighbours(ledger), 40):
                    self.assertIs(ledger_fits(n, plan, rows), rows in sizes)
                    self.gives(ledger_size, (n, plan, rows), sizes.get(rows, 0))

    def neighbours(self, ledger):
        """The ledger with two rows exchanged, a row left out or changed at one letter."""
        for i, j in itertools.combinations(range(len(ledger)), 2):
            rows = list(ledger)
            rows[i], rows[j] = rows[j], rows[i]
            yield tuple(rows)
        yield ledger[1:]
        yield ledger + ledger[:1]
        for i, row in enumerate(ledger):
            for at in range(len(row)):
                for letter in (1, 0, -1, 2):
                    yield ledger[:i] + (row[:at] + (letter,) + row[at + 1:],) + ledger[i + 1:]


class Edges(Case):
    def test_examples(self):
        self.gives(ledgers_count, (5, (1, 2, 1)), 20)
        self.gives(ledgers_count, (5, ladder(5)), 180)
        self.gives(ledgers_count, (8, full(8)), 28)

    def test_no_rounds(self):
        for n in (1, 8):
            self.gives(ledgers_count, (n, ()), 1)
            self.gives(ledger_size, (n, (), ((),) * n), 1)
            self.gives(ledger_fits, (n, (), ((),) * n), True)
            self.gives(ledger_fits, (n, (), ((),) * (n - 1)), False)
            self.gives(ledger_fits, (n, (), ((0,),) * n), False)

    def test_all_plans_of_eight_come_soon(self):
        # A ladder of eight has as many ledgers as cups: each round names both sides of its game.
        self.assertEqual(self.soon(ledgers_count, 8, ladder(8)), cups_total(8, ladder(8)))
        for plan in plans_of(8):
            self.assertLessEqual(self.soon(ledgers_count, 8, plan), cups_total(8, plan))
        last = ((1,) * 7,) + tuple((0,) * (7 - x) + (-1,) for x in range(1, 8))
        self.assertEqual(self.soon(ledger_size, 8, ladder(8), last), 1)
        self.is_yes(self.soon(ledger_fits, 8, ladder(8), last))


class Errors(Case):
    def test_sizes_and_plans_first(self):
        for call, more in ((ledgers_count, ()), (ledger_fits, (None,)), (ledger_size, ((),))):
            for n in (0, 9, 32, 33, -1, HUGE):
                self.refused(BadSize, n, call, n, (0,), *more)
            for index, n, plan in ((0, 4, (0,)), (0, 4, (3,)), (1, 4, (2, 2)), (2, 4, (2, 1, 1)), (0, 1, (1,)),
                                   (1, 8, (4, -1)), (0, 8, (HUGE,)), (7, 8, (1,) * 8)):
                self.refused(BadPlan, index, call, n, plan, *more)

    def test_odd_ledgers(self):
        ledger = ((1, 1), (0, -1), (-1,))
        self.is_yes(ledger_fits(3, (1, 1), ledger))
        self.is_no(ledger_fits(3, (1, 1), ledger[::-1]))
        for odd in with_odd_parts(ledger):
            self.is_no(ledger_fits(3, (1, 1), odd))
        for odd in ODD:
            self.is_no(ledger_fits(3, (1, 1), odd))
            self.is_no(ledger_fits(3, (1, 1), ledger + (odd,)))
            self.assertIs(ledger_fits(1, (), odd), odd == ((),))
        self.is_no(ledger_fits(8, full(8), ((),) * 10000))
        self.is_no(ledger_fits(8, full(8), ((0,) * 5000,) * 2))
