"""The texts of [42], of one row each: plans, words, seats and papers."""

import itertools
import random
import re

from boutstairs.errors import BadPlan, BadSeat, BadSize, BadText, BadWord
from boutstairs.fieldmakes import plain
from boutstairs.fits import short_exits, short_records
from boutstairs.papers import paper
from boutstairs.papertext import paper_from, paper_text
from boutstairs.planmakers import full, ladder, quick
from boutstairs.plantext import plan_from, plan_text, word_from, word_text
from boutstairs.seatforms import least_seats
from boutstairs.seattext import seats_from, seats_text
from boutstairs.wordranks import nth_word
from tests.helpers import ODD, S, with_odd_parts
from tests.plancups import plans_of
from tests.spoiling import NUMBER, TextCase, behind

HUGE = 10 ** 300
BAD = ("bad", 0)


def own_plan(text):
    found = behind(text, "plan", 10 ** 10)
    if not found or not 1 <= found[0] <= 32:
        return BAD
    left = found[0]
    for many in found[1:]:
        if many < 1 or 2 * many > left:
            return BAD
        left -= many
    return "good", (found[0], found[1:])


def own_word(text):
    found = behind(text, "word", 31)
    return ("good", found) if found is not None and 1 <= len(found) <= 32 else BAD


def own_seats(text):
    def block(at):
        """The row of sides that begins there, and where it ends; None if none does."""
        told = re.compile(NUMBER).match(text, at)
        if told:
            return (int(told.group()),), told.end()
        if text[at:at + 1] != "(" or text[:at].count("(") - text[:at].count(")") >= 5:
            return None
        left = block(at + 1)
        if left is None or text[left[1]:left[1] + 1] != " ":
            return None
        right = block(left[1] + 1)
        if right is None or text[right[1]:right[1] + 1] != ")" or len(left[0]) != len(right[0]):
            return None
        return left[0] + right[0], right[1] + 1

    found = block(0)
    if found is None or found[1] != len(text) or sorted(found[0]) != list(range(len(found[0]))):
        return BAD
    return "good", found[0]


def own_paper(text):
    for word, many in (("exit", 3), ("rest", 2), ("few", 2)):
        found = behind(text, word, 31)
        if found is not None and len(found) == many:
            return "good", (word,) + found
    return BAD


class Plans(TextCase):
    def test_sign_by_sign(self):
        self.gives(plan_text, (1, ()), "plan 1")
        self.gives(plan_text, (32, full(32)), "plan 32 16 8 4 2 1")
        self.gives(plan_text, (32, ladder(32)), "plan 32" + " 1" * 31)
        self.gives(plan_from, ("plan 32",), (32, ()))

    def test_there_and_back(self):
        for n in range(1, 9):
            for plan in plans_of(n):
                text = plan_text(n, plan)
                self.exactly(text, " ".join(["plan", str(n)] + [str(many) for many in plan]))
                self.gives(plan_from, (text,), (n, plan))
        for n in range(1, 33):
            self.gives(plan_from, (plan_text(n, quick(n)),), (n, quick(n)))

    def test_spoilt(self):
        for text in ("plan 1", "plan 2 1", "plan 8 4 2 1", "plan 21 10 5 3 1 1"):
            self.reads_spoilt(plan_from, own_plan, text)

    def test_what_is_no_plan(self):
        for n in (0, 33, -1, HUGE):
            self.refused(BadSize, n, plan_text, n, (0,))
        for index, n, plan in ((0, 4, (0,)), (0, 4, (3,)), (1, 4, (2, 2)), (0, 1, (1,)), (31, 32, (1,) * 32)):
            self.refused(BadPlan, index, plan_text, n, plan)
        for text in ("", "plan", "plan 0", "plan 33", "plan 1 1", "plan 4 2 2", "plan 4 0", "plan 04 2", "plan 4 2\n",
                     "plan 4  2", " plan 4", "plan 4 ", "plan 4 2 -1", "plans 4", "Plan 4", "plan 32" + " 1" * 32,
                     "plan " + "9" * 4000, "plan 4 " + "1 " * 9999, "plan\t4"):
            self.refused(BadText, 0, plan_from, text)


class Words(TextCase):
    def test_sign_by_sign(self):
        self.gives(word_text, ((0,),), "word 0")
        self.gives(word_text, ((0, 2, 1, 1),), "word 0 2 1 1")
        self.gives(word_text, ((31, 0) * 16,), "word" + " 31 0" * 16)
        self.gives(word_from, ("word" + " 31 0" * 16,), (31, 0) * 16)

    def test_there_and_back(self):
        for k in (0, 1, 777, 10 ** 12):
            word = nth_word(32, full(32), k)
            self.gives(word_from, (word_text(word),), word)
        for word in itertools.chain(itertools.product(range(3), repeat=3), [(x,) for x in range(32)]):
            self.gives(word_from, (word_text(word),), word)

    def test_spoilt(self):
        for text in ("word 0", "word 0 2 1 1", "word 31 0 10", "word" + " 7" * 32, "word" + " 7" * 31):
            self.reads_spoilt(word_from, own_word, text, 1 if len(text) < 20 else 9)

    def test_what_is_no_word(self):
        self.refused(BadSize, 0, word_text, ())
        self.refused(BadSize, 33, word_text, (-1,) * 33)
        for index, word in ((0, (-1,)), (0, (32,)), (1, (0, 32, -1)), (31, (31,) * 31 + (HUGE,)), (2, (5, 5, -HUGE, 99))):
            self.refused(BadWord, index, word_text, word)
        for text in ("", "word", "word ", "word 32", "word -1", "word 00", "word 0  1", "word 0\n", "word" + " 0" * 33,
                     "word" + " 0" * 9999, "0", "Word 0", "word 10000000000", "word 0 " + "0" * 5000):
            self.refused(BadText, 0, word_from, text)


class Seats(TextCase):
    def test_sign_by_sign(self):
        self.gives(seats_text, ((0,),), "0")
        self.gives(seats_text, ((1, 0),), "(1 0)")
        self.gives(seats_text, ((0, 1, 2, 3),), "((0 1) (2 3))")
        self.gives(seats_text, ((7, 0, 6, 1, 5, 2, 4, 3),), "(((7 0) (6 1)) ((5 2) (4 3)))")
        text = seats_text(tuple(range(31, -1, -1)))
        self.assertTrue(text.startswith("(((((31 30) (29 28)) ((27 26) (25 24)))"))
        self.assertEqual(text.count("("), 31)
        self.gives(seats_from, (text,), tuple(range(31, -1, -1)))

    def test_there_and_back(self):
        for n in (1, 2, 4):
            for seats in itertools.permutations(range(n)):
                self.gives(seats_from, (seats_text(seats),), seats)
        draw = random.Random(8)
        for n in (8, 16, 32):
            for _ in range(20):
                seats = tuple(draw.sample(range(n), n))
                self.gives(seats_from, (seats_text(seats),), seats)
                self.gives(seats_from, (seats_text(least_seats(seats)),), least_seats(seats))

    def test_spoilt(self):
        for text in ("0", "(1 0)", "((3 1) (0 2))", "(((7 0) (6 1)) ((5 2) (4 3)))"):
            self.reads_spoilt(seats_from, own_seats, text)
        self.reads_spoilt(seats_from, own_seats, seats_text(tuple(range(16))), 7)

    def test_what_is_no_row_of_seats(self):
        for many in (0, 3, 5, 31, 33, 64):
            self.refused(BadSize, many, seats_text, (0,) * many)
        for index, seats in ((0, (1,)), (1, (0, 0)), (0, (-1, 0)), (1, (0, 2)), (2, (0, 1, 1, 9)), (3, (3, 2, 1, HUGE))):
            self.refused(BadSeat, index, seats_text, seats)
        deep = tuple(range(64))
        while len(deep) > 1:
            deep = tuple(f"({one} {two})" for one, two in zip(deep[::2], deep[1::2]))
        for text in ("", "1", "00", "(0)", "(0 1", "0 1", "(0 1))", "(0 1) ", " (0 1)", "(0  1)", "( 0 1)", "(0 1 )",
                     "(0,1)", "(1 1)", "(0 2)", "(0 1 2)", "((0 1) 2)", "(0 (1 2))", "((0 1) (2 3)", "((0 1)(2 3))",
                     "((0 1) (2 2))", "(0 (1 (2 3)))", "()", "(0 1)\n", "(0\n1)", "(0\t1)", "(0\x1f1)", "(0 01)", deep[0],
                     "(" * 100000, "(" * 5 + "0" + ")" * 5, "(" * 3000 + "0 1" + ")" * 3000, "9" * 5000, "0 " * 50000,
                     "(\u0660 1)"):
            self.refused(BadText, 0, seats_from, text)


class Papers(TextCase):
    def test_sign_by_sign(self):
        self.gives(paper_text, (("exit", 3, 0, 31),), "exit 3 0 31")
        self.gives(paper_text, (("rest", 1, 2),), "rest 1 2")
        self.gives(paper_text, (("few",) + short_exits(plain(4), (0, 1, 1, 2)),), "few 1 1")
        self.gives(paper_text, (("few",) + short_records(plain(2), ((1,), (-1,))),), "few 1 1")
        self.gives(paper_text, (paper(plain(3), ((1, 1), S, S), (S, (1, 2), S)),), "exit 0 1 0")
        self.gives(paper_text, (paper(plain(3), ((1, 1), S, S), ((1, 2), S, S)),), "rest 1 1")

    def test_there_and_back(self):
        for word, many in (("exit", 3), ("rest", 2), ("few", 2)):
            for told in itertools.product((0, 1, 9, 10, 31), repeat=many):
                found = (word,) + told
                self.gives(paper_from, (paper_text(found),), found)

    def test_spoilt(self):
        for text in ("exit 3 0 31", "rest 1 2", "few 31 0"):
            self.reads_spoilt(paper_from, own_paper, text)

    def test_what_is_no_paper(self):
        for good in (("exit", 3, 0, 31), ("rest", 1, 2), ("few", 31, 0)):
            for odd in with_odd_parts(good):
                self.refused(BadText, 0, paper_text, odd)
        for odd in ODD + (["rest", 1, 2], ("rest", 1, 32), ("exit", -1, 0, 0), ("few", 1), ("played", 0, 1), (["rest"], 1, 2),
                          ("rest", [1], 2), {}, ("rest", 1, 2.0), ("exit", 1, 2), ("rest", 1, 2, 3), ({}, 1, 2)):
            self.refused(BadText, 0, paper_text, odd)
        for text in ("", "exit", "exit 1 2", "rest 1 2 3", "few 1", "few 1 2 ", "few 1 2\n", "rest 1  2", "rest 01 2",
                     "rest 1 32", "exit 1 2 -3", "played 0 1", "Rest 1 2", "rest 1 " + "2" * 5000, "few\t1 2", " few 1 2"):
            self.refused(BadText, 0, paper_from, text)
