"""Objects of the program's own inside are refused like all other wrong values."""

import importlib
import inspect
import pkgutil

import evencoins
from evencoins import errors
from evencoins.errors import (
    InvalidCircuit, InvalidHall, InvalidLetter, InvalidNumber, InvalidOperation, InvalidRun, InvalidScheme, InvalidWatch,
)
from evencoins.judge.schemes import Scheme
from evencoins.judge.sound import Facts
from evencoins.plan.circuits import Circuit
from evencoins.talk.gauges import Fit
from evencoins.talk.halls import Hall
from evencoins.talk.houses import House
from evencoins.talk.runs import Run
from evencoins.talk.seats import Seat
from evencoins.text.lines import Lines
from evencoins.text.texts import is_tight, tight
from evencoins.watch.watches import Watch
from tests.helper import COURSE, FRAME, LARGE, PRODUCT, SMALL, TALK, Case, keyed
from tests.test_interface import CLASSES, FUNCTIONS

COINS = {house: (1, 2) * (2 if house < 3 else 1) for house in LARGE.places}
# An object of each class of the package, also of those that the document does not list.
OBJECTS = [
    LARGE, PRODUCT, LARGE.gauge, Fit(7, LARGE.gauge.units, (1, 2), (3,)), TALK, FRAME, COURSE,
    Seat(TALK, 1, (3,), COINS[1]), House(LARGE, PRODUCT, 1, (3,), COINS[1]),
    Run(LARGE, PRODUCT, (3, 4), COINS, lot=(2,)), Facts(COURSE),
    Scheme(5, 2, (1, 2), (1,), ((2, (0, 1, 0, 1)),), ()), Watch(SMALL, (2,), ((3,),)), Lines("a\n"),
] + [made(7) for _, made in sorted(vars(errors).items()) if inspect.isclass(made)]

# For each first parameter what is right there, and the error for all else.
FIRST = {"hall": (Hall, InvalidHall), "circuit": (Circuit, InvalidCircuit), "run": (Run, InvalidRun),
         "scheme": (Scheme, InvalidScheme), "watch": (Watch, InvalidWatch), "field": (int, InvalidNumber)}


def modules():
    """All modules of the package."""
    names = [found.name for found in pkgutil.walk_packages(evencoins.__path__, "evencoins.")]
    return [importlib.import_module(name) for name in names]


def classes():
    """All classes of the package, by their names."""
    return {name: made for module in modules() for name, made in vars(module).items()
            if inspect.isclass(made) and made.__module__ == module.__name__}


def parameters(function):
    """The names of all parameters that are passed by position."""
    found = inspect.signature(function).parameters.values()
    return [part.name for part in found if part.kind is part.POSITIONAL_OR_KEYWORD]


def listed():
    """All functions and classes that the document lists."""
    names = [(module, name) for module, table in FUNCTIONS.items() for name in table] + list(CLASSES)
    return [getattr(importlib.import_module(module), name) for module, name in names]


def asked(function):
    """The function, a generator being asked for its first element."""
    def call(*arguments):
        found = function(*arguments)
        return next(found) if inspect.isgenerator(found) else found
    call.__name__ = function.__name__
    return call


class InsideTest(Case):

    def test_an_object_of_each_class(self):
        self.assertEqual(sorted(classes()), sorted(type(held).__name__ for held in OBJECTS))
        for held in OBJECTS:
            self.assertIs(type(held), classes()[type(held).__name__])

    def test_halls(self):
        rest = (PRODUCT, 1, (3,), COINS[1])
        house = keyed(House, 5, "without", "lines")
        run = keyed(Run, 4, "without", "lot", "lines", "lies")
        for held in OBJECTS:
            if isinstance(held, Hall):
                continue
            self.raises(InvalidHall, None, House, held, *rest)
            self.raises(InvalidHall, None, House, held, None, 0, (), ())
            self.raises(InvalidHall, None, house, held, *rest, "coins", True)
            self.raises(InvalidHall, None, Run, held, PRODUCT, (3, 4), COINS)
            self.raises(InvalidHall, None, run, held, PRODUCT, (3, 4), COINS, None, (2,), True, {})
        self.assertEqual([type(made).__name__ for made in (House(LARGE, *rest), Run(LARGE, PRODUCT, (3, 4), COINS))],
                         ["House", "Run"])

    def test_classes_themselves(self):
        for made in classes().values():
            self.raises(InvalidHall, None, House, made, PRODUCT, 1, (3,), COINS[1])
            self.raises(InvalidHall, None, Run, made, PRODUCT, (3, 4), COINS)

    def test_other_parts_of_houses_and_runs(self):
        coins = {1: (2, 5), 2: (4, 1), 3: (6,)}
        for function, good in ((keyed(House, 5, "without", "lines"), (SMALL, PRODUCT, 1, (3,), (2, 5), None, False)),
                               (keyed(Run, 4, "without", "lot", "lines", "lies"),
                                (SMALL, PRODUCT, (3, 4), coins, None, (), False, {}))):
            function(*good)
            for held in OBJECTS:
                for place, part in enumerate(good):
                    if type(part) is not type(held):
                        with self.assertRaises((ValueError, IndexError, KeyError)):
                            function(*good[:place], held, *good[place + 1:])

    def test_first_parameters(self):
        seen = set()
        for function in listed():
            names = parameters(function)
            if not names or names[0] not in FIRST:
                continue
            seen.add(names[0])
            right, error = FIRST[names[0]]
            for held in OBJECTS:
                if not isinstance(held, right):
                    self.raises(error, held, asked(function), held, *[None] * (len(names) - 1))
        self.assertEqual(seen, set(FIRST))

    def test_circuits_behind_halls(self):
        seen = 0
        for function in listed():
            names = parameters(function)
            if names[:2] == ["hall", "circuit"]:
                seen += 1
                for held in OBJECTS:
                    if not isinstance(held, Circuit):
                        self.raises(InvalidCircuit, None, asked(function), LARGE, held, *[None] * (len(names) - 2))
        self.assertGreater(seen, 15)

    def test_questions(self):
        run = Run(LARGE, PRODUCT, (3, 4), COINS, lot=(2,), lies={(1, 2, 1): None})
        for held in OBJECTS:
            self.raises(InvalidOperation, None, tight, run, held)
            self.raises(InvalidOperation, None, is_tight, run, held)

    def test_what_houses_hear(self):
        for house in (House(LARGE, PRODUCT, 1, (3,), COINS[1]), Run(LARGE, PRODUCT, (3, 4), COINS).houses[1]):
            for held in OBJECTS:
                self.raises(InvalidLetter, None, house.hearing, held, {})
                self.raises(InvalidLetter, None, house.hearing, {}, held)
                self.raises(InvalidLetter, None, house.hearing, {2: held}, {})
                self.is_false(house == held and not isinstance(held, House))
