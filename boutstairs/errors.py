"""The errors of the package: all stand directly under Refused."""


class Refused(ValueError):
    """What is refused; the thing it is refused for is kept in `what`."""

    def __init__(self, what):
        self.what = what


class BadSize(Refused):
    """Too few or too many sides, or none of the numbers that are let."""


class BadSide(Refused):
    """A number that is no side, or a side out of order."""


class BadStrength(Refused):
    """A strength out of its bounds."""


class BadGuard(Refused):
    """A guard out of its bounds."""


class Unlike(Refused):
    """Two things that should have one length or one form have not."""


class BadPlan(Refused):
    """No plan for so many sides."""


class BadGame(Refused):
    """A game that cannot stand in a cup."""


class BadRounds(Refused):
    """A round without its losers or its winners."""


class BadRound(Refused):
    """A round that is not there."""


class BadPair(Refused):
    """No pair of two that belong together."""


class BadSeat(Refused):
    """No side, or one that has its seat already."""


class Undecided(Refused):
    """A game that neither or either side may win."""


class NotFull(Refused):
    """A cup whose plan is not full."""


class BadDeed(Refused):
    """No deed, or one that is not let."""


class BadRow(Refused):
    """A deed of a run, a step of a history or a row of words that is refused."""


class BadLoose(Refused):
    """No ascending tuple of rounds."""


class BadRecord(Refused):
    """No record of a side."""


class BadExit(Refused):
    """No exit of a side."""


class TooFew(Refused):
    """Too few beaters for a side."""


class NoGame(Refused):
    """A game that is not there."""


class NoRest(Refused):
    """A rest that is not there."""


class BadCount(Refused):
    """A number that is out of its bounds, or nothing to count."""


class NotSame(Refused):
    """Two cups that do not come of one another."""


class BadWay(Refused):
    """No index of a way."""


class TooMany(Refused):
    """More than the limit."""


class BadPrice(Refused):
    """Prices out of their bounds or their form."""


class BadWeight(Refused):
    """Weights that give nothing to divide by."""


class BadWord(Refused):
    """No word of a plan."""


class IsWinner(Refused):
    """A side that wins a game."""


class BadWidth(Refused):
    """No number of losers of a game."""


class BadText(Refused):
    """A row of a text that cannot be read."""


class Played(Refused):
    """A game that is played already."""


class NotReady(Refused):
    """A game that is not due yet."""


class AtHome(Refused):
    """A cup that can go home."""


class NothingToUndo(Refused):
    """No deed stands."""


class NothingToRedo(Refused):
    """No deed was undone last."""
