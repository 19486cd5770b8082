"""The numbers of the words of a plan."""

from boutstairs.errors import BadCount, BadWord
from boutstairs.rows import row_at, row_number
from boutstairs.wordrows import counted_words


def nth_word(n, plan, k):
    """The word with number k."""
    rows = counted_words(n, plan)
    if not 0 <= k < rows.rows_from(rows.start):
        raise BadCount(k)
    return row_at(rows, k)


def word_rank(n, plan, word):
    """The number of a word."""
    rows = counted_words(n, plan)
    if len(word) != n:
        raise BadWord(len(word))
    number, bad = row_number(rows, word)
    if bad is not None:
        raise BadWord((bad,))
    return number
