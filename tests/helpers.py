"""What the tests share: asking for errors, odd things, and plain listings."""

import itertools
import time
import unittest

from boutstairs.errors import BadGame, BadLoose, BadRounds, Unlike
from boutstairs.fieldmakes import plain


def nested(depth):
    """A tuple in a tuple, and so on."""
    found = ()
    for _ in range(depth):
        found = (found,)
    return found


ODD = (
    None, "", "odd", "0", "exchange", "shift", (), ("",), (None,), ((),), (((),),), nested(49), ("odd", (None, 1)),
    (0, (1, (2, (3,)))), -10 ** 40, 10 ** 40, -1, 77)


def with_odd_parts(value):
    """All values in which one part of this value, or the whole, is an odd thing, or is left out."""
    for odd in ODD:
        if odd != value:
            yield odd
    if isinstance(value, tuple):
        for index, part in enumerate(value):
            yield value[:index] + value[index + 1:]
            for other in with_odd_parts(part):
                yield value[:index] + (other,) + value[index + 1:]


def parts_of(value):
    """The value and all parts of it."""
    yield value
    if isinstance(value, (tuple, list)):
        for part in value:
            yield from parts_of(part)


class Case(unittest.TestCase):
    """A test case that asks for errors and kinds exactly."""

    def refused(self, error, what, call, *args, **named):
        """The call raises just this error, with just this `what`."""
        with self.assertRaises(error) as caught:
            call(*args, **named)
        self.assertIs(type(caught.exception), error)
        self.assertEqual(caught.exception.what, what)
        self.assertIs(type(caught.exception.what), type(what))

    def gives(self, call, args, expected):
        """The call returns this, of just these kinds."""
        self.exactly(call(*args), expected)

    def exactly(self, value, expected):
        """The value is this one, and so is the kind of each of its parts."""
        self.assertEqual(value, expected)
        kinds = [type(part) for part in parts_of(value)]
        self.assertEqual(kinds, [type(part) for part in parts_of(expected)])

    def asks_cup(self, call, *more, **named):
        """Whatever else is handed in, the cup is looked at first."""
        for error, what, pairs in BAD_CUPS:
            self.refused(error, what, call, plain(4), pairs, *more, **named)

    def asks_second_cup(self, call, one, *more, **named):
        """Behind the cup one of plain(4), the next one is looked at."""
        for error, what, pairs in BAD_CUPS:
            self.refused(error, what, call, plain(4), one, pairs, *more, **named)

    def asks_loose(self, call, *args):
        """The loose rounds ascend from 1 on."""
        for what, loose in BAD_LOOSE:
            self.refused(BadLoose, what, call, *args, loose=loose)
        with self.assertRaises(TypeError):
            call(*args, (1,))

    def is_yes(self, value):
        self.assertIs(value, True)

    def is_no(self, value):
        self.assertIs(value, False)

    def soon(self, call, *args, **named):
        """What the call returns; it may not take long."""
        start = time.monotonic()
        value = call(*args, **named)
        self.assertLess(time.monotonic() - start, 5)
        return value


def fillings(guards, strengths):
    """All fillings of a board."""
    found = []
    for filling in itertools.permutations(range(len(strengths)), len(guards)):
        if all(strengths[j] >= guards[i] for i, j in enumerate(filling)):
            found.append(filling)
    return found


def small_boards(most=4, numbers=(0, 1, 2)):
    """All boards of few losers, seats and numbers, losers and seats of equal numbers once."""
    for many in range(most + 1):
        for seats in range(most + 1):
            for guards in itertools.product(numbers, repeat=many):
                for strengths in itertools.combinations_with_replacement(numbers, seats):
                    # Neither ascending nor descending, so that the order of the seats counts.
                    yield guards, strengths[1::2] + strengths[::2]


def matchings(field, sides):
    """All tuples of games (loser, winner), perhaps none, in which no side plays twice."""
    if not sides:
        return [()]
    first, others = sides[0], sides[1:]
    found = matchings(field, others)
    for other in others:
        left = tuple(x for x in others if x != other)
        for games in matchings(field, left):
            for x, y in ((first, other), (other, first)):
                if field.strengths[y] >= field.guards[x]:
                    found = found + [games + ((x, y),)]
    return found


def cups_of(field):
    """All cups of a field, by playing round after round."""
    found = []

    def play(pairs, left, r):
        found.append(tuple(pairs))
        for games in matchings(field, left):
            if games:
                more = list(pairs)
                for x, y in games:
                    more[x] = (r, y)
                out = [x for x, _ in games]
                play(more, tuple(x for x in left if x not in out), r + 1)

    play([(0, -1)] * field.n, tuple(range(field.n)), 1)
    return found


# Pairs for plain(4) that are no cup, with what made_cup says of them.
S = (0, -1)
BAD_CUPS = (
    (Unlike, 0, ()),
    (Unlike, 3, (S, S, S)),
    (Unlike, 5, ((9, 9), S, S, S, S)),
    (BadGame, (1, 0), (S, (1, 1), S, (9, 9))),
    (BadGame, (0, 0), ((1, 4), S, (1, 4), S)),
    (BadRounds, 1, ((2, 3), (3, 0), S, S)),
    (BadGame, (0, 1), ((1, 1), (1, 2), S, S)),
    (BadGame, (1, 2), ((1, 3), (1, 3), (1, 0), S)),
    (BadGame, (1, 3), (S, (1, 0), S, S)),
)

# Tuples that are no loose rounds, with the index that is named.
BAD_LOOSE = ((0, (0,)), (0, (-1, 0)), (1, (1, 1)), (2, (1, 3, 2, 0)), (1, (5, -10 ** 40)), (3, (1, 2, 10 ** 40, 3)))
