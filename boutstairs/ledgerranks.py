"""The numbers of the ledgers of a plan, and the chances of records."""

from boutstairs.checks import check_side
from boutstairs.errors import BadCount, BadRecord
from boutstairs.exitchances import cups_to
from boutstairs.ledgerrows import checked_ledgers
from boutstairs.plans import cups_total
from boutstairs.rows import row_at, row_number
from boutstairs.shares import share


def nth_ledger(n, plan, k):
    """The ledger with number k."""
    rows = checked_ledgers(n, plan)
    if not 0 <= k < rows.rows_from(rows.start):
        raise BadCount(k)
    return row_at(rows, k)


def ledger_rank(n, plan, ledger):
    """The number of a ledger."""
    rows = checked_ledgers(n, plan)
    if len(ledger) != n:
        raise BadRecord(len(ledger))
    number, bad = row_number(rows, ledger)
    if bad is not None:
        raise BadRecord((bad,))
    return number


def record_chances(n, plan, x):
    """Pairs (record, chance that x has it), by record."""
    rows = checked_ledgers(n, plan)
    check_side(n, x)
    counts = {}
    for state, ways_there in cups_to(rows, n - 1 - x).items():
        for record, choices, after in rows.steps(state):
            counts[record] = counts.get(record, 0) + ways_there * choices * rows.cups_from(after)
    total = cups_total(n, plan)
    return tuple([(record, share(counts[record], total)) for record in sorted(counts) if counts[record] > 0])
