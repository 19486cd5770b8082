"""Records: what each side does in each round that it is in."""

from boutstairs.checks import MOST_SIDES, are_rows
from boutstairs.cuplooks import comes_through, last_round
from boutstairs.cups import made_cup
from boutstairs.errors import BadRecord, BadRounds, BadSize, Refused

WINS = 1
RESTS = 0
LOSES = -1


def letter(cup, x, r):
    """What side x of a cup, which is in round r, does there."""
    if not comes_through(cup, x, r):
        return LOSES
    return WINS if (r, x) in cup else RESTS


def record(cup, x):
    """The record of side x of a cup."""
    last = cup[x][0]
    if last == 0:
        last = last_round(cup)
    return tuple([letter(cup, x, r) for r in range(1, last + 1)])


def records(field, cup):
    """The record of each side."""
    made_cup(field, cup)
    return tuple([record(cup, x) for x in range(field.n)])


def check_letters(x, row):
    """Refuse letters that are none, or stand behind a loss."""
    for i, told in enumerate(row):
        behind_loss = i > 0 and row[i - 1] == LOSES
        if behind_loss or told not in (WINS, RESTS, LOSES):
            raise BadRecord((x, i))


def check_rounds(rows, longest):
    """Refuse rounds without a loss, or with not as many wins as losses."""
    for i in range(longest):
        letters = [row[i] for row in rows if i < len(row)]
        if LOSES not in letters or letters.count(WINS) != letters.count(LOSES):
            raise BadRounds(i + 1)


def made_records(rows):
    """The rows, if each can be a record of a side."""
    if not 1 <= len(rows) <= MOST_SIDES:
        raise BadSize(len(rows))
    for x, row in enumerate(rows):
        check_letters(x, row)
    longest = max([len(row) for row in rows])
    for x, row in enumerate(rows):
        if LOSES not in row and len(row) != longest:
            raise BadRecord((x, -1))
    check_rounds(rows, longest)
    return rows


def is_records(rows):
    """Whether this value, of any form, is what made_records lets."""
    if not are_rows(rows):
        return False
    try:
        made_records(rows)
    except Refused:
        return False
    return True
