import random
import re

from boutstairs.errors import (
    AtHome, BadDeed, BadRow, BadSide, NoGame, NothingToRedo, NothingToUndo, NotReady, NotSame, Played, Refused, TooMany)
from boutstairs.fieldmakes import plain, ranked
from boutstairs.live import Live
from boutstairs.liveasks import pool_now
from boutstairs.sayslive import answer
from tests.helpers import S
from tests.listings import listed, some_cup, some_field
from tests.livemodel import LiveCase, told_of
from tests.spoiling import NUMBER, SIGNED, SIGNS, WORDS, spoilt

HUGE = 10 ** 300
C = ((1, 4), (1, 5), (1, 6), (1, 7), (2, 6), (2, 7), (3, 7), S)
FORM = re.compile(
    f"(exchange|shift|chance) ({NUMBER}) ({NUMBER})|(play|flip) ({NUMBER})|ease ({NUMBER}) ({SIGNED}) ({SIGNED})"
    "|mark|undo|redo|home|left|way|why|cup|field|kin|played")
ROWS = ("exchange 0 1", "shift 10 31", "play 4", "flip 0", "ease 1 20 -3", "ease 0 -1000000000 1000000000", "mark", "undo",
        "redo", "home", "left", "way", "why", "cup", "field", "chance 0 4", "kin", "played")


def is_row(row):
    """Whether a row is one of the document's."""
    told = FORM.fullmatch(row)
    if not told:
        return False
    word, *parts = row.split(" ")
    small = parts[:1] if word == "ease" else parts
    return all(int(part) <= 31 for part in small) and all(abs(int(part)) <= 10 ** 9 for part in parts)


class Answers(LiveCase):
    def says(self, live, row, text):
        self.exactly(answer(live, row), text)

    def test_sign_by_sign(self):
        live = Live(plain(8), C)
        for row, text in (
                ("cup", "cup 8;1 4;1 5;1 6;1 7;2 6;2 7;3 7;-"), ("field", "field 8;0 0;1 1;2 2;3 3;4 4;5 5;6 6;7 7"),
                ("home", "yes"), ("left", "0"), ("way", ""), ("kin", "48"), ("played", "-"), ("chance 0 4", "1/4"),
                ("chance 4 0", "0/1"), ("exchange 0 2", "ok"), ("exchange 0 1", "ok"), ("left", "2"), ("home", "yes"),
                ("way", "exchange 1 2;exchange 0 1"), ("play 3", "ok"), ("play 0", "ok"), ("kin", "4"), ("played", "0 3"),
                ("chance 1 6", "1/2"), ("home", "no"), ("why", "played 0 5"), ("mark", "ok"), ("home", "yes"),
                ("undo", "ok"), ("home", "no"), ("redo", "ok"), ("ease 3 7 -1000000000", "ok"),
                ("field", "field 8;0 0;1 1;2 2;7 -1000000000;4 4;5 5;6 6;7 7"), ("ease 7 7 -2", "ok"),
                ("play 1", "ok"), ("play 2", "ok"), ("played", "0 1 2 3"), ("kin", "2")):
            self.says(live, row, text)

    def test_why(self):
        live = Live(ranked((0,) * 4), ((1, 2), (2, 2), S, S), loose=(1,))
        for row, text in (("shift 0 3", "ok"), ("flip 0", "ok"), ("why", "exit 0 0 1"), ("shift 3 2", "ok"),
                          ("flip 3", "ok"), ("shift 2 0", "ok"), ("flip 2", "ok"), ("why", "rest 2 2"), ("home", "no")):
            self.says(live, row, text)
        live = Live(plain(3), ((1, 1), S, S), loose=(1,))
        for row, text in (("shift 0 2", "ok"), ("way", "shift 0 1"), ("play 0", "ok"), ("why", "played 0 2"),
                          ("cup", "cup 3;1 2;-;-"), ("chance 0 2", "1/1"), ("kin", "1"), ("played", "0")):
            self.says(live, row, text)

    def test_one_side(self):
        live = Live(plain(1), (S,))
        for row, text in (("cup", "cup 1;-"), ("field", "field 1;0 0"), ("kin", "1"), ("chance 0 0", "0/1"), ("way", ""),
                          ("left", "0"), ("home", "yes"), ("played", "-"), ("mark", "ok"), ("undo", "ok"), ("redo", "ok")):
            self.says(live, row, text)

    def test_rows_do_what_the_methods_do(self):
        draw = random.Random(55)
        for _ in range(80):
            field = some_field(draw.randrange(1, 6), draw)
            cup = some_cup(field, draw)
            one, two = Live(field, cup, loose=(1,)), Live(field, cup, loose=(1,))
            for _ in range(40):
                numbers = [draw.randrange(field.n + 1) for _ in range(2)]
                word = draw.choice(("exchange", "shift", "play", "flip", "ease", "mark", "undo", "redo"))
                count = {"exchange": 2, "shift": 2, "play": 1, "flip": 1, "ease": 3}.get(word, 0)
                numbers = (numbers + [draw.randrange(-5, 5)])[:count]
                self.alike(one, two, word, numbers)
            self.exactly(answer(one, "kin"), str(len(listed(pool_now(two)))))
            self.exactly(answer(one, "played"), " ".join(str(x) for x in two.played()) or "-")

    def alike(self, one, two, word, numbers):
        row = " ".join([word] + [str(number) for number in numbers])
        try:
            getattr(two, word)(*numbers)
        except Refused as error:
            self.refused(type(error), error.what, answer, one, row)
        else:
            self.says(one, row, "ok")
        self.exactly(told_of(one), told_of(two))

    def test_errors_as_they_are(self):
        live = Live(plain(8), C)
        for error, what, row in (
                (BadDeed, 0, "exchange 1 0"), (BadDeed, 0, "exchange 31 30"), (BadDeed, 1, "exchange 0 31"),
                (BadDeed, 2, "exchange 0 4"), (BadDeed, 1, "shift 8 0"), (BadDeed, 2, "shift 0 5"), (BadSide, 8, "play 8"),
                (NoGame, (7, -1), "play 7"), (NotReady, 1, "play 6"), (BadDeed, 2, "flip 0"), (BadSide, 31, "flip 31"),
                (BadSide, 9, "ease 9 0 0"), (NothingToUndo, 0, "undo"), (NothingToRedo, 0, "redo"), (AtHome, 0, "why"),
                (BadSide, 8, "chance 8 9"), (BadSide, 31, "chance 0 31")):
            self.refused(error, what, answer, live, row)
        live.exchange(0, 1)
        live.play(0)
        for error, what, row in ((NotSame, 0, "way"), (NotSame, 0, "left"), (Played, 0, "play 0"),
                                 (Played, 0, "exchange 0 1")):
            self.refused(error, what, answer, live, row)
        for _ in range(298):
            answer(live, "mark")
        self.refused(TooMany, 301, answer, live, "mark")


class Rows(LiveCase):
    def test_spoilt_rows(self):
        field = ranked((0,) * 4)
        good = 0
        for row in ROWS:
            self.assertTrue(is_row(row))
            for other in spoilt(row):
                live = Live(field, ((1, 2), (1, 3), S, S), loose=(1,))
                if is_row(other):
                    good += 1
                    try:
                        answer(live, other)
                    except Refused as error:
                        self.assertNotEqual(type(error), BadRow)
                else:
                    before = told_of(live)
                    self.refused(BadRow, other, answer, live, other)
                    self.exactly(told_of(live), before)
        self.assertGreater(good, 50)

    def test_rows_that_are_none(self):
        live = Live(plain(8), C)
        for row in ("", " ", "Exchange 0 1", "exchange", "exchange 0", "exchange 0 1 2", "exchange 0 32", "exchange 0 -1",
                    "exchange 00 1", "exchange  0 1", "exchange 0 1 ", " exchange 0 1", "exchange 0 1\n", "shift 0",
                    "play", "play 0 0", "play 32", "play -0", "flip", "ease 0 0", "ease 0 0 0 0", "ease 0 1000000001 0",
                    "ease 0 0 -1000000001", "ease -1 0 0", "ease 32 0 0", "ease 0 -0 0", "ease 0 +1 0", "mark 0", "undo 1",
                    "redo 1", "home home", "left ", "way home", "chance 0", "chance 0 1 2", "kin 1", "played 0", "why not",
                    "cup 8", "field 8", "loose", "record", "marked", "grant", "told 0 1", "undo\nundo", "9" * 5000,
                    "play " + "1" * 5000, "exchange 0 10000000000", "mark\t", "pl\u00e4y 0", "play \u0661"):
            before = told_of(live)
            self.refused(BadRow, row, answer, live, row)
            self.exactly(told_of(live), before)
        for word in WORDS + SIGNS:
            self.refused(BadRow, word, answer, live, word)
            self.refused(BadRow, "mark " + word, answer, live, "mark " + word)
