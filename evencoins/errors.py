"""The errors of the package."""


class EvenError(ValueError):
    """What the errors that take a message, and ParseError, are derived from."""


class InvalidPoly(EvenError):
    """A value is no poly."""


class InvalidTable(EvenError):
    """A value is no table, no vector, no square or no row."""


class InvalidWord(EvenError):
    """A value is no word."""


class InvalidCoins(EvenError):
    """A value is no row of coins."""


class InvalidInputs(EvenError):
    """A value does not have a number for each input."""


class InvalidHall(EvenError):
    """A value is no hall."""


class InvalidCircuit(EvenError):
    """A value is no circuit."""


class InvalidProgram(EvenError):
    """A value is no program."""


class InvalidLetter(EvenError):
    """A value is no letter, or no text."""


class InvalidLot(EvenError):
    """A value is no lot."""


class InvalidLies(EvenError):
    """A value is no dict of lies."""


class InvalidRun(EvenError):
    """A value is no run."""


class InvalidScheme(EvenError):
    """A value is no scheme."""


class InvalidWatch(EvenError):
    """A value is no watch."""


class InvalidOperation(EvenError):
    """Values do not go together, or a value is none of those that are let."""


class ParseError(EvenError):
    """A text is none of the asked ones, from the spot on."""

    def __init__(self, spot):
        self.spot = spot


class InvalidNumber(IndexError):
    """The given value is none of the integers that are let."""

    def __init__(self, given):
        self.given = given


class UnknownName(KeyError):
    """The wanted name is none of the told ones."""

    def __init__(self, wanted):
        self.wanted = wanted


class TooMany(OverflowError):
    """There are more than the limit."""

    def __init__(self, limit):
        self.limit = limit


class Refused(ArithmeticError):
    """It can't be done; the first member of the reason is a word."""

    def __init__(self, reason):
        self.reason = reason
