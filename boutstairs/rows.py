"""Rows that stand for classes of cups: words and ledgers, counted by the states between their entries."""


class Rows:
    """All rows that lead from a start to an end; the classes of words and of ledgers tell the steps.

    Each entry of a row has a number of choices; the row stands for as many cups as their product tells.
    """

    def __init__(self, start, end):
        self.start = start
        self.end = end
        self.rows_known = {}
        self.cups_known = {}

    def steps(self, state):
        """Triples (entry, its choices, the state behind it) of what may come next, ascending."""
        return []

    def rows_from(self, state):
        """How many rows lead on from a state to the end."""
        if state == self.end:
            return 1
        if state not in self.rows_known:
            self.rows_known[state] = sum([self.rows_from(after) for _, _, after in self.steps(state)])
        return self.rows_known[state]

    def cups_from(self, state):
        """How many cups the rows stand for that lead on from a state to the end."""
        if state == self.end:
            return 1
        if state not in self.cups_known:
            parts = [many * self.cups_from(after) for _, many, after in self.steps(state)]
            self.cups_known[state] = sum(parts)
        return self.cups_known[state]

    def chosen(self, state, k):
        """The next entry of the row with number k of those from here on, the state behind it, and what is left of k."""
        left = k
        for entry, _, after in self.steps(state):
            many = self.rows_from(after)
            if left < many:
                return (entry, after, left)
            left = left - many
        return None

    def placed(self, state, entry):
        """How many rows go on from here with lesser entries, and the state behind this one; None if none has it."""
        lesser = 0
        for other, _, after in self.steps(state):
            many = self.rows_from(after)
            if other == entry:
                return (lesser, after) if many > 0 else None
            lesser = lesser + many
        return None


def row_at(rows, k):
    """The row with number k, which is below their number."""
    found = []
    state = rows.start
    left = k
    while state != rows.end:
        entry, state, left = rows.chosen(state, left)
        found.append(entry)
    return tuple(found)


def row_number(rows, row):
    """Pair (the number of a row, None); or (None, the first index up to which none of the rows begins like it)."""
    total = 0
    state = rows.start
    for index, entry in enumerate(row):
        found = rows.placed(state, entry)
        if found is None:
            return (None, index)
        lesser, state = found
        total = total + lesser
    return (total, None)


def row_size(rows, row):
    """How many cups a row of entries stands for, 0 if it is none of the rows."""
    total = 1
    state = rows.start
    for entry in row:
        found = [(many, after) for other, many, after in rows.steps(state) if other == entry]
        if len(found) == 0:
            return 0
        many, state = found[0]
        total = total * many
    return total if state == rows.end else 0


def one_more(numbers, index):
    """The tuple with the number at the index greater by 1."""
    return numbers[:index] + (numbers[index] + 1,) + numbers[index + 1:]
