"""The text of a run."""

from boutstairs.checks import MOST_SIDES
from boutstairs.done import has_sides, is_deed
from boutstairs.errors import BadRow
from boutstairs.runs import check_length
from boutstairs.textrows import MOST_SMALL, read_rows, so_many


def run_text(run):
    """The text of a run."""
    check_length(run)
    for index, deed in enumerate(run):
        if not is_deed(deed) or not has_sides(MOST_SIDES, deed):
            raise BadRow(index)
    return "\n".join([f"{word} {x} {y}" for word, x, y in run])


def deed_in(row, _):
    """The deed of a row, None if it is bad."""
    words = row.split(" ")
    numbers = so_many(words[1:], 2, 0, MOST_SMALL)
    if numbers is None:
        return None
    deed = (words[0],) + numbers
    return deed if is_deed(deed) else None


def run_from(text):
    """The run of a text."""
    rows = text.split("\n")
    check_length(rows)
    return () if text == "" else read_rows(rows, 0, len(rows), deed_in)
