"""Looking at cups: rounds, exits, and who loses, wins or rests."""

from boutstairs.checks import check_round, check_side
from boutstairs.cups import made_cup


def last_round(cup):
    """The number of rounds of what is known to be a cup."""
    return max([r for r, _ in cup])


def comes_through(cup, x, r):
    """Whether side x of a cup does not lose up to round r."""
    return cup[x][0] == 0 or cup[x][0] > r


def rests(cup, x, r):
    """Whether side x of a cup comes through round r without a game."""
    return comes_through(cup, x, r) and (r, x) not in cup


def round_losers(cup, r):
    """The sides of a cup that lose in round r."""
    return tuple([x for x, (lost, _) in enumerate(cup) if lost == r])


def round_winners(cup, r):
    """The sides of a cup that win in round r."""
    return tuple(sorted([y for lost, y in cup if lost == r]))


def check_cup_round(field, cup, r):
    """Refuse what is no cup, then a round that it has not."""
    made_cup(field, cup)
    check_round(r, 1, last_round(cup))


def rounds(field, cup):
    """The number of rounds."""
    made_cup(field, cup)
    return last_round(cup)


def exits(field, cup):
    """The round in which each side loses, 0 if it stays."""
    made_cup(field, cup)
    return tuple([r for r, _ in cup])


def losers(field, cup, r):
    """The sides that lose in round r."""
    check_cup_round(field, cup, r)
    return round_losers(cup, r)


def winners(field, cup, r):
    """The sides that win in round r."""
    check_cup_round(field, cup, r)
    return round_winners(cup, r)


def resters(field, cup, r):
    """The sides that come through round r without a game."""
    check_cup_round(field, cup, r)
    return tuple([x for x in range(field.n) if rests(cup, x, r)])


def games(field, cup, r):
    """The pairs (loser, winner) of round r."""
    check_cup_round(field, cup, r)
    return tuple([(x, cup[x][1]) for x in round_losers(cup, r)])


def plan_of(field, cup):
    """The number of games of each round."""
    made_cup(field, cup)
    return tuple([len(round_losers(cup, r)) for r in range(1, last_round(cup) + 1)])


def stayers(field, cup):
    """The sides that never lose."""
    made_cup(field, cup)
    return round_losers(cup, 0)


def wins(field, cup):
    """How many games each side wins."""
    made_cup(field, cup)
    return tuple([len([x for x, (_, y) in enumerate(cup) if y == winner]) for winner in range(field.n)])


def opponents(field, cup, x):
    """Whom side x plays, in the order of the rounds."""
    made_cup(field, cup)
    check_side(field.n, x)
    played = [(r, z) for z, (r, y) in enumerate(cup) if y == x]
    if cup[x][0] > 0:
        played.append(cup[x])
    return tuple([z for _, z in sorted(played)])
