from boutstairs import errors
from boutstairs.errors import Refused
from tests.helpers import Case

NAMES = (
    "BadSize", "BadSide", "BadStrength", "BadGuard", "Unlike", "BadPlan", "BadGame", "BadRounds", "BadRound",
    "BadPair", "BadSeat", "Undecided", "NotFull", "BadDeed", "BadRow", "BadLoose", "BadRecord", "BadExit", "TooFew",
    "NoGame", "NoRest", "BadCount", "NotSame", "BadWay", "TooMany", "BadPrice", "BadWeight", "BadWord", "IsWinner",
    "BadWidth", "BadText", "Played", "NotReady", "AtHome", "NothingToUndo", "NothingToRedo")


class Errors(Case):
    def test_all_stand_right_under_refused(self):
        self.assertEqual(len(NAMES), 36)
        self.assertEqual(Refused.__bases__, (ValueError,))
        for name in NAMES:
            self.assertEqual(getattr(errors, name).__bases__, (Refused,), name)
            self.assertEqual(getattr(errors, name).__module__, "boutstairs.errors", name)

    def test_what_is_kept(self):
        for name in NAMES + ("Refused",):
            error = getattr(errors, name)
            for what in (0, -5, 10 ** 50, (3, -1), "exchange 1", None):
                self.exactly(error(what).what, what)
                self.exactly(error(what=what).what, what)

    def test_one_argument(self):
        for name in NAMES + ("Refused",):
            for args in ((), (1, 2)):
                with self.assertRaises(TypeError):
                    getattr(errors, name)(*args)

    def test_caught_under_refused_and_value_error(self):
        for name in NAMES:
            for above in (Refused, ValueError):
                with self.assertRaises(above) as caught:
                    raise getattr(errors, name)(name)
                self.assertEqual(caught.exception.what, name)
