"""The errors of [0.19]."""

import evencoins.errors as errors
from tests.helper import CIRCUIT, LONG, Case

PLAIN = (
    "InvalidPoly", "InvalidTable", "InvalidWord", "InvalidCoins", "InvalidInputs", "InvalidHall", "InvalidCircuit",
    "InvalidProgram", "InvalidLetter", "InvalidLot", "InvalidLies", "InvalidRun", "InvalidScheme", "InvalidWatch",
    "InvalidOperation",
)
KEEPING = (
    ("ParseError", "spot", errors.EvenError), ("InvalidNumber", "given", IndexError),
    ("UnknownName", "wanted", KeyError), ("TooMany", "limit", OverflowError), ("Refused", "reason", ArithmeticError),
)
KEPT = (0, -3, LONG, True, None, "", "a b", (), ("zero",), ("cover", (0, 1)), [1], {1: 2}, CIRCUIT)


class ErrorsTest(Case):

    def test_derived(self):
        self.assertEqual(errors.EvenError.__bases__, (ValueError,))
        for name in PLAIN:
            self.assertEqual(getattr(errors, name).__bases__, (errors.EvenError,), name)
        for name, _, base in KEEPING:
            self.assertEqual(getattr(errors, name).__bases__, (base,), name)

    def test_unlike(self):
        classes = [getattr(errors, name) for name in PLAIN] + [getattr(errors, name) for name, _, _ in KEEPING]
        for one in classes:
            for other in classes:
                self.assertEqual(issubclass(one, other), one is other)

    def test_defined_here(self):
        for name in PLAIN + tuple(name for name, _, _ in KEEPING) + ("EvenError",):
            self.assertEqual(getattr(errors, name).__module__, "evencoins.errors")
            self.assertEqual(getattr(errors, name).__name__, name)

    def test_messages(self):
        for name in PLAIN + ("EvenError",):
            error = getattr(errors, name)("what is wrong")
            self.assertEqual(str(error), "what is wrong")
            with self.assertRaises(ValueError):
                raise error

    def test_kept(self):
        for name, attribute, base in KEEPING:
            for kept in KEPT:
                error = getattr(errors, name)(kept)
                self.assertIs(getattr(error, attribute), kept, name)
                self.assertIsInstance(error, base)

    def test_raised(self):
        with self.assertRaises(LookupError) as caught:
            raise errors.InvalidNumber((1, 2))
        self.assertEqual(caught.exception.given, (1, 2))
        with self.assertRaises(KeyError) as caught:
            raise errors.UnknownName("rows")
        self.assertEqual(caught.exception.wanted, "rows")
        with self.assertRaises(ArithmeticError) as caught:
            raise errors.Refused(("zero",))
        self.assertEqual(caught.exception.reason, ("zero",))
