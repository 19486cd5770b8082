import itertools
import math

from boutstairs.boards import board_row
from boutstairs.boardsets import board_cheapest, board_marks, board_weighed
from boutstairs.errors import BadCount, BadPair, BadPrice, BadSize, TooMany
from tests.helpers import Case, fillings, small_boards

TOP = 10 ** 9
HUGE = 10 ** 300


def some_table(losers, seats, step):
    """A table of small numbers, some of them equal, some of them 0."""
    return tuple(tuple((i * 5 + j * step) % 4 for j in range(seats)) for i in range(losers))


def poly(counts):
    top = max(counts, default=-1)
    return tuple(counts.get(k, 0) for k in range(top + 1))


class Listed(Case):
    def test_marks(self):
        for guards, strengths in small_boards(4, (0, 1)):
            cells = tuple(itertools.product(range(len(guards)), range(len(strengths))))
            for pairs in ((), cells, cells[::2], cells[1::3], cells[:1] * 2 + cells[1:2]):
                counts = {}
                for filling in fillings(guards, strengths):
                    k = len(set(pairs) & set(enumerate(filling)))
                    counts[k] = counts.get(k, 0) + 1
                self.exactly(board_marks(guards, strengths, pairs), poly(counts))

    def test_weighed_and_cheapest(self):
        for guards, strengths in small_boards(4, (0, 1)):
            row = board_row(guards)
            for step in (1, 2, 3):
                table = some_table(len(guards), len(strengths), step)
                every = fillings(guards, strengths)
                weight = sum(math.prod(table[i][j] for i, j in enumerate(filling)) for filling in every)
                self.exactly(board_weighed(guards, strengths, table), weight)
                if not every:
                    self.refused(BadCount, 0, board_cheapest, guards, strengths, table)
                    continue
                sums = [sum(table[i][j] for i, j in enumerate(filling)) for filling in every]
                best = [filling for total, filling in zip(sums, every) if total == min(sums)]
                first = min(best, key=lambda filling: tuple(filling[i] for i in row))
                self.exactly(board_cheapest(guards, strengths, table), (min(sums), len(best), first))


class Edges(Case):
    def test_empty(self):
        self.gives(board_marks, ((), (), ()), (1,))
        self.gives(board_marks, ((), (1, 2), ()), (1,))
        self.gives(board_marks, ((1,), (), ()), ())
        self.gives(board_marks, ((1,), (0,), ((0, 0),)), ())
        self.gives(board_weighed, ((), (), ()), 1)
        self.gives(board_weighed, ((), (3,), ()), 1)
        self.gives(board_weighed, ((1,), (), ((),)), 0)
        self.gives(board_cheapest, ((), (), ()), (0, 1, ()))
        self.gives(board_cheapest, ((), (3, 3), ()), (0, 1, ()))
        self.refused(BadCount, 0, board_cheapest, (1,), (), ((),))

    def test_no_filling_of_many_losers(self):
        self.gives(board_marks, ((0,) * 32, (0,) * 10, ()), ())
        self.gives(board_weighed, ((0,) * 32, (0,) * 10, ((1,) * 10,) * 32), 0)
        self.refused(BadCount, 0, board_cheapest, (0,) * 32, (0,) * 10, ((1,) * 10,) * 32)

    def test_first_goes_by_the_row(self):
        # The row is 1, 0: loser 1 takes the least seat first.
        self.gives(board_cheapest, ((0, 5), (5, 5), ((1, 1), (1, 1))), (2, 2, (1, 0)))
        self.gives(board_cheapest, ((5, 5), (5, 5), ((1, 1), (1, 1))), (2, 2, (0, 1)))
        self.gives(board_cheapest, ((5, 5), (5, 5), ((TOP, 0), (TOP, TOP))), (TOP, 1, (1, 0)))

    def test_ten_seats_come_soon(self):
        ten = (HUGE,) * 10
        table = ((TOP,) * 10,) * 10
        cells = tuple((i, j) for i in range(10) for j in range(10))
        self.assertEqual(self.soon(board_marks, ten, ten, cells), (0,) * 10 + (math.factorial(10),))
        diagonal = self.soon(board_marks, ten, ten, tuple((i, i) for i in range(10)))
        self.assertEqual((diagonal[0], sum(diagonal), diagonal[9], diagonal[10]), (1334961, math.factorial(10), 0, 1))
        self.assertEqual(self.soon(board_weighed, ten, ten, table), math.factorial(10) * TOP ** 10)
        told = self.soon(board_cheapest, ten, ten, table)
        self.assertEqual(told, (10 * TOP, math.factorial(10), tuple(range(10))))


class Errors(Case):
    def test_sizes_first(self):
        for call in (board_marks, board_weighed, board_cheapest):
            self.refused(BadSize, 33, call, (0,) * 33, (0,) * 34, ((-1, -1),))
            self.refused(BadSize, 34, call, (0,), (0,) * 34, ((-1, -1),))

    def test_pairs(self):
        for i, j in ((-1, 0), (2, 0), (0, -1), (0, 11), (HUGE, -HUGE)):
            self.refused(BadPair, 2, board_marks, (0, 0), (0,) * 11, ((0, 0), (1, 10), (i, j), (-1, -1)))
        self.refused(BadPair, 0, board_marks, (), (), ((0, 0),))
        self.refused(TooMany, 11, board_marks, (0,), (0,) * 11, ((0, 10),))
        self.refused(TooMany, 32, board_marks, (9,), (0,) * 32, ())

    def test_tables(self):
        eleven = (0,) * 11
        good = (TOP,) + (0,) * 10
        for call in (board_weighed, board_cheapest):
            self.refused(BadPrice, 1, call, (0, 0), eleven, ((-1,),))
            self.refused(BadPrice, 3, call, (0, 0), eleven, ((-1,),) * 3)
            self.refused(BadPrice, 0, call, (0, 0), eleven, ())
            for row in ((), (0,) * 10, (0,) * 12, (-1,) + (0,) * 10, (0,) * 10 + (TOP + 1,), (HUGE,) * 11):
                self.refused(BadPrice, (0,), call, (0, 0), eleven, (row, row))
                self.refused(BadPrice, (1,), call, (0, 0), eleven, (good, row))
            self.refused(TooMany, 11, call, (0, 0), eleven, (good, good))
            self.refused(TooMany, 32, call, (0,), (0,) * 32, ((0,) * 32,))
            self.refused(BadPrice, (0,), call, (1,), (), ((1,),))
        self.refused(TooMany, 11, board_cheapest, (9,), eleven, (good,))
        self.refused(BadCount, 0, board_cheapest, (9,), (0,) * 10, (good[:10],))
