"""Ledgers: the records of a cup by a plan, from the strongest side down."""

from boutstairs.checks import are_rows
from boutstairs.ledgerrows import checked_ledgers
from boutstairs.rows import row_size


def ledger_fits(n, plan, ledger):
    """Whether this value, of any form, is a ledger of the plan."""
    rows = checked_ledgers(n, plan)
    return are_rows(ledger) and row_size(rows, ledger) > 0


def ledgers_count(n, plan):
    """How many ledgers the plan has."""
    rows = checked_ledgers(n, plan)
    return rows.rows_from(rows.start)


def ledger_size(n, plan, ledger):
    """How many cups of plain(n) have this ledger by the plan."""
    return row_size(checked_ledgers(n, plan), ledger)
