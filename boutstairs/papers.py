"""Papers: what shows that two cups are not same."""

from boutstairs.checks import are_numbers
from boutstairs.cuplooks import last_round, round_winners
from boutstairs.ways import check_cups


def unlike_winners(one, two, r):
    """The sides that win in round r in just one of the cups."""
    first = round_winners(one, r)
    second = round_winners(two, r)
    return [y for y in range(len(one)) if (y in first) != (y in second)]


def paper(field, one, two, *, loose=()):
    """What shows that the cups are not same; None if they are."""
    check_cups(field, one, two, loose)
    for x in range(field.n):
        if one[x][0] != two[x][0]:
            return ("exit", x, one[x][0], two[x][0])
    for r in range(1, last_round(one) + 1):
        unlike = unlike_winners(one, two, r)
        if r not in loose and unlike:
            return ("rest", r, unlike[0])
    return None


def is_paper(value):
    """Whether a value of any form has the form of a paper on two cups."""
    if not isinstance(value, tuple) or not are_numbers(value[1:]):
        return False
    return len(value) == 4 and value[0] == "exit" or len(value) == 3 and value[0] == "rest"


def paper_right(field, one, two, paper, *, loose=()):
    """Whether this value, of any form, is a paper that is right on the cups."""
    check_cups(field, one, two, loose)
    if not is_paper(paper):
        return False
    if paper[0] == "exit":
        _, x, r, s = paper
        return 0 <= x < field.n and r != s and (one[x][0], two[x][0]) == (r, s)
    _, r, y = paper
    return r >= 1 and r not in loose and y in unlike_winners(one, two, r)
