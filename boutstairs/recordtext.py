"""The text of records."""

from boutstairs.checks import MOST_SIDES
from boutstairs.errors import BadText
from boutstairs.records import is_records, made_records
from boutstairs.textrows import check_end, read_head, read_rows

# The numbers of records are -1, 0 and 1, in this order.
LETTERS = "lrw"
EMPTY = "."


def records_text(rows):
    """The text of records."""
    made_records(rows)
    found = [f"records {len(rows)}"]
    for row in rows:
        letters = [LETTERS[told + 1] for told in row]
        found.append("".join(letters) if letters else EMPTY)
    return "\n".join(found)


def record_in(row, _):
    """The record of a row, None if it is bad."""
    if row == EMPTY:
        return ()
    if row == "" or any(letter not in LETTERS for letter in row):
        return None
    return tuple([LETTERS.index(letter) - 1 for letter in row])


def records_from(text):
    """The records of a text."""
    rows = text.split("\n")
    n = read_head(rows, "records", 1, MOST_SIDES)
    found = read_rows(rows, 1, n, record_in)
    check_end(rows, n + 1)
    if not is_records(found):
        raise BadText(len(rows))
    return found
