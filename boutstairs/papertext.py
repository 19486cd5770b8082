"""The text of a paper."""

from boutstairs.checks import are_numbers
from boutstairs.errors import BadText
from boutstairs.textrows import MOST_SMALL, many_behind, spaced

# How many numbers stand behind the word of each paper.
PAPERS = {"exit": 3, "rest": 2, "few": 2}


def is_written_paper(paper):
    """Whether a value of any form is a paper that has a text."""
    if not isinstance(paper, tuple) or len(paper) == 0 or not isinstance(paper[0], str):
        return False
    if PAPERS.get(paper[0]) != len(paper) - 1 or not are_numbers(paper[1:]):
        return False
    return all(0 <= number <= MOST_SMALL for number in paper[1:])


def paper_text(paper):
    """The text of a paper."""
    if not is_written_paper(paper):
        raise BadText(0)
    return spaced(paper[0], paper[1:])


def paper_from(text):
    """The paper of a text."""
    word = text.partition(" ")[0]
    found = many_behind(text, word, PAPERS.get(word, 0), 0, MOST_SMALL)
    if found is None or word not in PAPERS:
        raise BadText(0)
    return (word,) + found
