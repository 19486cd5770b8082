"""The text of a field."""

from boutstairs.checks import MOST_SIDES
from boutstairs.fields import MOST, made_field
from boutstairs.textrows import check_end, read_head, read_rows, so_many


def field_text(field):
    """The text of a field."""
    rows = [f"field {field.n}"]
    rows.extend([f"{strength} {guard}" for strength, guard in zip(field.strengths, field.guards)])
    return "\n".join(rows)


def bounds_in(row, _):
    """The strength and the guard of a row, None if it is bad."""
    return so_many(row.split(" "), 2, -MOST, MOST)


def field_from(text):
    """The field of a text."""
    rows = text.split("\n")
    n = read_head(rows, "field", 1, MOST_SIDES)
    pairs = read_rows(rows, 1, n, bounds_in)
    check_end(rows, n + 1)
    return made_field(tuple([strength for strength, _ in pairs]), tuple([guard for _, guard in pairs]))
