"""The words of a plan, by how often each exit stands before an entry."""

from boutstairs.errors import TooMany
from boutstairs.plans import made_plan
from boutstairs.polys import product_of
from boutstairs.rows import Rows, one_more

MOST_STATES = 20000


class WordRows(Rows):
    """The words for n sides, by how many lose in each round; a state has for each exit how often it stands before.

    Each game has so many losers: one, but for wide cups.
    """

    def __init__(self, n, losing, many=1):
        Rows.__init__(self, (0,) * (len(losing) + 1), (n - sum(losing),) + losing)
        self.many = many

    def steps(self, state):
        """Triples (exit, its choices, the state behind it) of what may come next, ascending."""
        found = []
        # Whoever stays or loses later, and is stronger, may be the beater.
        above = state[0]
        for r in range(len(state) - 1, 0, -1):
            room = self.many * above
            if state[r] < min(room, self.end[r]):
                found.append((r, room - state[r], one_more(state, r)))
            above = above + state[r]
        if state[0] < self.end[0]:
            found.append((0, 1, one_more(state, 0)))
        return found[::-1]


def counted_words(n, plan):
    """The words of a plan that does not have too many states."""
    made_plan(n, plan)
    found = WordRows(n, plan)
    states = product_of([many + 1 for many in found.end])
    if states > MOST_STATES:
        raise TooMany(states)
    return found
