"""Words: the exits of a cup by a plan, from the strongest side down."""

from boutstairs.checks import MOST_SIDES, are_numbers
from boutstairs.errors import BadSize
from boutstairs.plans import made_plan
from boutstairs.rows import row_size
from boutstairs.wordrows import WordRows, counted_words


def word_fits(n, plan, word):
    """Whether this value, of any form, is a word of the plan."""
    made_plan(n, plan)
    return are_numbers(word) and row_size(WordRows(n, plan), word) > 0


def words_count(n, plan):
    """How many words the plan has."""
    rows = counted_words(n, plan)
    return rows.rows_from(rows.start)


def word_size(n, plan, word):
    """How many cups of plain(n) have this word by the plan."""
    made_plan(n, plan)
    return row_size(WordRows(n, plan), word)


def turned_about(numbers):
    """The numbers from the last one to the first."""
    if not 1 <= len(numbers) <= MOST_SIDES:
        raise BadSize(len(numbers))
    return numbers[::-1]


def exits_of(word):
    """The exits from side 0 up."""
    return turned_about(word)


def word_of(exits):
    """The exits from the strongest side down."""
    return turned_about(exits)
