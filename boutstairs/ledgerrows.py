"""The ledgers of a plan, by how many wins and losses of each round stand before a record."""

from boutstairs.errors import BadSize
from boutstairs.plans import made_plan
from boutstairs.records import LOSES, RESTS, WINS
from boutstairs.rows import Rows, one_more

LEDGER_SIDES = 8


class LedgerRows(Rows):
    """The ledgers of a plan for n sides; a state is (how many stay, wins of each round, losses of each round)."""

    def __init__(self, n, plan):
        Rows.__init__(self, (0, (0,) * len(plan), (0,) * len(plan)), (n - sum(plan), plan, plan))

    def steps(self, state):
        """Triples (record, its choices, the state behind it) of what may come next, ascending."""
        stay, won, lost = state
        found = []
        begun = [((), won)]
        for i, games in enumerate(self.end[1]):
            ahead = []
            for record, wins in begun:
                # Whoever won in this round before, and has no loser yet, may be the beater.
                if won[i] > lost[i]:
                    found.append((record + (LOSES,), won[i] - lost[i], (stay, wins, one_more(lost, i))))
                ahead.append((record + (RESTS,), wins))
                if won[i] < games:
                    ahead.append((record + (WINS,), one_more(wins, i)))
            begun = ahead
        if stay < self.end[0]:
            found.extend([(record, 1, (stay + 1, wins, lost)) for record, wins in begun])
        return sorted(found)


def checked_ledgers(n, plan):
    """The ledgers of a plan for 1 to 8 sides."""
    if not 1 <= n <= LEDGER_SIDES:
        raise BadSize(n)
    made_plan(n, plan)
    return LedgerRows(n, plan)
