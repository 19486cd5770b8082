"""The text of a cup."""

from boutstairs.cups import STAYS, is_cup, made_cup
from boutstairs.errors import BadText
from boutstairs.textrows import MOST_SMALL, check_end, read_head, read_rows, so_many


def cup_text(field, cup):
    """The text of a cup."""
    made_cup(field, cup)
    rows = [f"cup {field.n}"]
    rows.extend(["-" if r == 0 else f"{r} {y}" for r, y in cup])
    return "\n".join(rows)


def pair_in(row, x, n):
    """The pair of side x of n sides in a row, None if it is bad."""
    if row == "-":
        return STAYS
    found = so_many(row.split(" "), 2, 0, MOST_SMALL)
    if found is None or found[0] == 0 or found[1] >= n or found[1] == x:
        return None
    return found


def cup_from(field, text):
    """The cup of the field in a text."""
    rows = text.split("\n")
    read_head(rows, "cup", field.n, field.n)
    pairs = read_rows(rows, 1, field.n, lambda row, x: pair_in(row, x, field.n))
    check_end(rows, field.n + 1)
    if not is_cup(field, pairs):
        raise BadText(len(rows))
    return pairs
