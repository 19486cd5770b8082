"""The text of a price table."""

from boutstairs.checks import MOST_SIDES
from boutstairs.errors import BadPrice
from boutstairs.fields import MOST
from boutstairs.tables import check_table
from boutstairs.textrows import check_end, read_head, read_rows, so_many


def table_text(table):
    """The text of a price table."""
    if not 1 <= len(table) <= MOST_SIDES:
        raise BadPrice(len(table))
    check_table(len(table), table)
    rows = [f"table {len(table)}"]
    rows.extend([" ".join([str(price) for price in row]) for row in table])
    return "\n".join(rows)


def table_from(text):
    """The price table of a text."""
    rows = text.split("\n")
    n = read_head(rows, "table", 1, MOST_SIDES)
    table = read_rows(rows, 1, n, lambda row, place: so_many(row.split(" "), n, 0, MOST))
    check_end(rows, n + 1)
    return table
