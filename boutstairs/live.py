"""The live cup: it is played while it changes, and each deed can be undone."""

from boutstairs.checks import check_loose, check_side
from boutstairs.cups import made_cup
from boutstairs.done import behind, check_deed
from boutstairs.errors import NoGame, NothingToRedo, NothingToUndo, NotReady, Played, TooMany
from boutstairs.fieldmakes import eased
from boutstairs.flips import flipped

MOST_STANDING = 300


class Moment:
    """How a live cup stands between two deeds; it never changes."""

    def __init__(self, field_then, cup_then, mark_then, played_then):
        self.field_then = field_then
        self.cup_then = cup_then
        self.mark_then = mark_then
        self.played_then = played_then


class Live:
    """A cup in play. `standing` has (row of the record, moment before it) for each deed that stands, and `undone`
    (row, moment behind it) for each that may be redone, the one that was undone first in front."""

    def __init__(self, field, cup, *, loose=()):
        made_cup(field, cup)
        check_loose(loose)
        self.loose_rounds = loose
        self.now = Moment(field, cup, cup, ())
        self.standing = []
        self.undone = []

    def field(self):
        """The field as it stands."""
        return self.now.field_then

    def cup(self):
        """The cup as it stands."""
        return self.now.cup_then

    def loose(self):
        """The loose rounds."""
        return self.loose_rounds

    def marked(self):
        """The mark."""
        return self.now.mark_then

    def played(self):
        """The losers of the games that are played, ascending."""
        return self.now.played_then

    def record(self):
        """A row for each deed that stands."""
        return tuple([row for row, _ in self.standing])

    def grant(self, row, moment):
        """Let a deed stand, behind which things are as in the moment."""
        if len(self.standing) >= MOST_STANDING:
            raise TooMany(len(self.standing) + 1)
        self.standing.append((row, self.now))
        self.now = moment
        self.undone = []

    def change(self, deed, losing, row):
        """Do an exchange or a shift by which these sides get other beaters."""
        for x in losing:
            if x in self.played():
                raise Played(x)
        self.grant(row, Moment(self.field(), behind(self.cup(), deed), self.marked(), self.played()))

    def exchange(self, x, y):
        """Exchange two losers of a round."""
        deed = ("exchange", x, y)
        check_deed(self.field(), self.cup(), deed, self.loose_rounds)
        self.change(deed, (x, y), deed)

    def shift(self, x, y):
        """Let x lose to y, who rests in that loose round."""
        deed = ("shift", x, y)
        check_deed(self.field(), self.cup(), deed, self.loose_rounds)
        self.change(deed, (x,), deed + (self.cup()[x][1],))

    def check_open(self, x):
        """Refuse what is no side, does not lose, or loses a game that is played."""
        check_side(self.field().n, x)
        if self.cup()[x][0] == 0:
            raise NoGame((x, -1))
        if x in self.played():
            raise Played(x)

    def play(self, x):
        """Play the game that x loses, as it stands."""
        self.check_open(x)
        r = self.cup()[x][0]
        waiting = [s for z, (s, _) in enumerate(self.cup()) if 0 < s < r and z not in self.played()]
        if waiting:
            raise NotReady(min(waiting))
        played = tuple(sorted(self.played() + (x,)))
        self.grant(("play", x), Moment(self.field(), self.cup(), self.marked(), played))

    def flip(self, x):
        """Let the game that x loses go the other way."""
        self.check_open(x)
        cup = flipped(self.field(), self.cup(), x)
        self.grant(("flip", x), Moment(self.field(), cup, self.marked(), self.played()))

    def ease(self, x, strength, guard):
        """Give x a strength that is not less and a guard that is not greater."""
        old = self.field()
        field = eased(old, x, strength, guard)
        row = ("ease", x, strength, guard, old.strengths[x], old.guards[x])
        self.grant(row, Moment(field, self.cup(), self.marked(), self.played()))

    def mark(self):
        """Make the cup as it stands the mark."""
        self.grant(("mark",), Moment(self.field(), self.cup(), self.cup(), self.played()))

    def undo(self):
        """Take back the last deed that stands."""
        if not self.standing:
            raise NothingToUndo(0)
        row, before = self.standing.pop()
        self.undone.append((row, self.now))
        self.now = before

    def redo(self):
        """Do the deed again that was undone last."""
        if not self.undone:
            raise NothingToRedo(0)
        row, after = self.undone.pop()
        self.standing.append((row, self.now))
        self.now = after
