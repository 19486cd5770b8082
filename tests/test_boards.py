import itertools
import math

from boutstairs.boardchance import board_chance, boards_chance
from boutstairs.boards import board_choices, board_count, board_rings, board_row, board_short, seat_choices
from boutstairs.errors import BadCount, BadPair, BadSize
from boutstairs.shares import share
from tests.helpers import Case, fillings, small_boards

HUGE = 10 ** 300
FAR = (0,) * 32
LOOKS = (board_choices, board_count, board_short, board_rings, seat_choices)


def rings(one, two):
    """How many rings two fillings have."""
    seats = {seat: x for x, seat in enumerate(one)}
    left = set(range(len(one)))
    count = 0
    while left:
        x = left.pop()
        # A row that ends at a seat that nobody has in one is no ring.
        row, at = [x], seats.get(two[x])
        while at is not None and at != x and at in left:
            row.append(at)
            at = seats.get(two[at])
        if at == x:
            count += 1
            left -= set(row)
    return count


def poly(counts):
    """The polynomial with these numbers, given by their index."""
    top = max(counts, default=-1)
    return tuple(counts.get(k, 0) for k in range(top + 1))


class Rows(Case):
    def test_row(self):
        self.gives(board_row, ((),), ())
        self.gives(board_row, ((4,),), (0,))
        self.gives(board_row, ((1, 3, 1, 3, 2),), (1, 3, 4, 0, 2))
        self.gives(board_row, ((-HUGE, HUGE, -1, 0),), (1, 3, 2, 0))
        self.gives(board_row, (FAR,), tuple(range(32)))

    def test_choices(self):
        self.gives(board_choices, ((), ()), ())
        self.gives(board_choices, ((), (1, 2)), ())
        self.gives(board_choices, ((1, 2), ()), ((1, 0), (0, -1)))
        self.gives(board_choices, ((0, 1, 2, 3), (4, 5, 6, 7)), ((3, 4), (2, 3), (1, 2), (0, 1)))
        self.gives(board_choices, ((5, 2, 5), (2, 5, 9, 1)), ((0, 2), (2, 1), (1, 1)))
        self.gives(board_choices, ((-HUGE, HUGE), (HUGE, -HUGE)), ((1, 1), (0, 1)))
        self.gives(board_choices, (FAR, FAR), tuple((i, 32 - i) for i in range(32)))

    def test_choices_as_the_row_takes_its_seats(self):
        for guards, strengths in small_boards(3):
            told = board_choices(guards, strengths)
            self.assertEqual(tuple(i for i, _ in told), board_row(guards))
            for filling in fillings(guards, strengths):
                taken = []
                for i, many in told:
                    free = [j for j, s in enumerate(strengths) if s >= guards[i] and j not in taken]
                    self.assertEqual(len(free), many)
                    taken.append(filling[i])


class Counts(Case):
    def test_count_by_listing(self):
        for guards, strengths in small_boards():
            many = len(fillings(guards, strengths))
            self.exactly(board_count(guards, strengths), many)
            short = board_short(guards, strengths)
            self.assertEqual(short is None, many > 0)
            if short is not None:
                below = [i for i, choices in board_choices(guards, strengths) if choices < 1]
                self.exactly(short, below[0])

    def test_short(self):
        self.gives(board_short, ((1, 1, 1), (1, 1)), 2)
        self.gives(board_short, ((1, 5, 3), (2, 2, 4)), 1)
        self.gives(board_short, ((1, 4, 3), (2, 2, 4)), 2)
        self.gives(board_short, ((), ()), None)
        self.gives(board_short, ((0,), ()), 0)
        # Several losers are short, with choices below 0 among them.
        self.gives(board_count, ((1, 1, 1, 1), (1,)), 0)
        self.gives(board_count, ((9, 9), ()), 0)

    def test_far_numbers(self):
        self.gives(board_count, ((HUGE, -HUGE), (HUGE, HUGE)), 2)
        self.gives(board_count, ((HUGE + 1, -HUGE), (HUGE, HUGE)), 0)
        self.gives(board_count, ((-5, -3), (-3, -4)), 1)

    def test_big_boards_come_soon(self):
        self.assertEqual(self.soon(board_count, FAR, FAR), math.factorial(32))
        self.assertEqual(self.soon(board_count, tuple(range(32)), tuple(range(32))), 1)
        self.assertEqual(self.soon(board_count, (), FAR), 1)
        self.assertEqual(self.soon(board_count, FAR, ()), 0)
        self.assertEqual(self.soon(board_count, (0,) * 16, FAR), math.perm(32, 16))
        rising = self.soon(board_rings, FAR, FAR)
        self.assertEqual((sum(rising), len(rising), rising[0], rising[32]), (math.factorial(32), 33, 0, 1))
        fewer = self.soon(board_rings, (0,) * 31, FAR)
        self.assertEqual(fewer[:2], (math.factorial(31), sum(math.factorial(31) // k for k in range(1, 32))))
        self.assertEqual(self.soon(board_chance, FAR, FAR, 31, 0), (1, 32))
        self.assertEqual(self.soon(boards_chance, FAR, FAR, ((31, 0), (0, 31))), (1, 32 * 31))
        self.assertEqual(len(self.soon(seat_choices, FAR, FAR)), 32)


class Seats(Case):
    def test_seat_choices(self):
        self.gives(seat_choices, ((), ()), ())
        self.gives(seat_choices, ((), (1,)), None)
        self.gives(seat_choices, ((1,), ()), None)
        self.gives(seat_choices, ((2,), (1,)), None)
        self.gives(seat_choices, ((0, 1, 2, 3), (4, 5, 6, 7)), ((0, 4), (1, 3), (2, 2), (3, 1)))
        self.gives(seat_choices, ((3, 0, 2), (5, 2, 5)), ((1, 2), (0, 2), (2, 1)))
        self.gives(seat_choices, ((HUGE, -HUGE), (HUGE, -HUGE)), ((1, 1), (0, 1)))

    def test_seat_choices_by_listing(self):
        for guards, strengths in small_boards(3):
            told = seat_choices(guards, strengths)
            if len(guards) != len(strengths) or not fillings(guards, strengths):
                self.assertIsNone(told)
            else:
                row = sorted(range(len(strengths)), key=lambda j: (strengths[j], j))
                expected = [(j, sum(g <= strengths[j] for g in guards) - place) for place, j in enumerate(row)]
                self.exactly(told, tuple(expected))
                self.assertEqual(sorted(d for _, d in told), sorted(d for _, d in board_choices(guards, strengths)))


class Rings(Case):
    def test_rings_by_listing(self):
        self.assertEqual(rings((0, 1, 2), (1, 0, 2)), 2)
        self.assertEqual(rings((0, 1), (1, 2)), 0)
        for guards, strengths in small_boards():
            told = board_rings(guards, strengths)
            every = fillings(guards, strengths)
            if not every:
                self.exactly(told, ())
            for one in every[:3]:
                counts = {}
                for two in every:
                    k = rings(one, two)
                    counts[k] = counts.get(k, 0) + 1
                self.exactly(told, poly(counts))

    def test_rings(self):
        self.gives(board_rings, ((), ()), (1,))
        self.gives(board_rings, ((), (3,)), (1,))
        self.gives(board_rings, ((3,), (3,)), (0, 1))
        self.gives(board_rings, ((3,), (2,)), ())
        self.gives(board_rings, ((0, 0, 0), (1, 1, 1)), (0, 2, 3, 1))


class Chances(Case):
    def test_chance_by_listing(self):
        for guards, strengths in small_boards():
            every = fillings(guards, strengths)
            for i, j in itertools.product(range(len(guards)), range(len(strengths))):
                if every:
                    many = sum(filling[i] == j for filling in every)
                    self.exactly(board_chance(guards, strengths, i, j), share(many, len(every)))
                else:
                    self.refused(BadCount, 0, board_chance, guards, strengths, i, j)

    def test_chance_by_its_rule(self):
        guards, strengths = (2, 5, 2, 0), (5, 2, 3, 9, 6)
        self.gives(board_chance, (guards, strengths, 1, 3), (1, 3))
        self.gives(board_chance, (guards, strengths, 1, 1), (0, 1))
        self.gives(board_chance, (guards, strengths, 0, 1), (1, 4))
        self.gives(board_chance, (guards, strengths, 0, 3), (1, 6))
        self.gives(board_chance, (guards, strengths, 2, 3), (1, 6))
        self.gives(board_chance, (guards, strengths, 3, 1), (1, 4))

    def test_chances_by_listing(self):
        for guards, strengths in small_boards(3, (0, 1)):
            every = fillings(guards, strengths)
            cells = tuple(itertools.product(range(len(guards)), range(len(strengths))))
            for many in range(4):
                for pairs in itertools.combinations(cells, many):
                    if every:
                        have = sum(all(filling[i] == j for i, j in pairs) for filling in every)
                        self.exactly(boards_chance(guards, strengths, pairs), share(have, len(every)))
                        self.exactly(boards_chance(guards, strengths, pairs[::-1]), share(have, len(every)))
                    else:
                        self.refused(BadCount, 0, boards_chance, guards, strengths, pairs)

    def test_chances(self):
        self.gives(boards_chance, ((), (), ()), (1, 1))
        self.gives(boards_chance, ((0, 0), (1, 1, 1), ()), (1, 1))
        self.gives(boards_chance, ((0, 0), (1, 1, 1), ((1, 2), (1, 2))), (1, 3))
        self.gives(boards_chance, ((0, 0), (1, 1, 1), ((1, 2), (0, 2))), (0, 1))
        self.gives(boards_chance, ((0, 0), (1, 1, 1), ((1, 2), (1, 0))), (0, 1))
        self.gives(boards_chance, ((0, 2), (1, 2), ((1, 0),)), (0, 1))
        self.gives(boards_chance, ((0, 2), (1, 2), ((0, 1),)), (0, 1))


class Errors(Case):
    def test_sizes(self):
        for many in (33, 40):
            far = (HUGE,) * many
            self.refused(BadSize, many, board_row, far)
            for look in LOOKS:
                self.refused(BadSize, many, look, far, (0,) * 50)
                self.refused(BadSize, many, look, (HUGE,), far)
            self.refused(BadSize, many, board_chance, far, (0,) * 50, -1, -1)
            self.refused(BadSize, many, board_chance, (HUGE,), far, -1, -1)
            self.refused(BadSize, many, boards_chance, far, (0,) * 50, ((-1, -1),))
            self.refused(BadSize, many, boards_chance, (HUGE,), far, ((-1, -1),))

    def test_pairs_before_fillings(self):
        for i, j in ((-1, 0), (2, 0), (0, -1), (0, 3), (HUGE, HUGE)):
            self.refused(BadPair, (i, j), board_chance, (9, 9), (1, 1, 1), i, j)
            self.refused(BadPair, 1, boards_chance, (9, 9), (1, 1, 1), ((0, 2), (i, j), (-1, -1)))
        self.refused(BadPair, (0, 0), board_chance, (), (), 0, 0)
        self.refused(BadPair, 0, boards_chance, (), (), ((0, 0),))
        self.refused(BadCount, 0, board_chance, (9, 9), (1, 1, 1), 1, 2)
        self.refused(BadCount, 0, boards_chance, (9, 9), (1, 1, 1), ((1, 2),))
        self.refused(BadCount, 0, boards_chance, (9,), (), ())
