"""What the tests share: odd values, spoiled papers, tables of wrong arguments, and how many steps a call takes."""

import os
import sys
import unittest
from itertools import product

import evencoins
from evencoins.errors import InvalidNumber, Refused, TooMany, UnknownName
from evencoins.plan.circuits import Circuit
from evencoins.talk.courses import Course
from evencoins.talk.frames import Frame
from evencoins.talk.halls import Hall
from evencoins.talk.talks import Talk

LONG = 10 ** 60
LONGEST = 10 ** 100 - 1
CIRCUIT = Circuit((("input", 1),), ((0, (1,)),))
SMALL, LARGE = Hall(7, 3, 1, "look"), Hall(7, 5, 1, "lie")
PRODUCT = Circuit((("input", 1), ("input", 2), ("product", 0, 1)), ((2, (1, 3)),))
# Objects of the program's own inside, which the document does not list.
TALK = Talk(LARGE, PRODUCT, None, False)
FRAME = Frame(TALK, (2,), {})
COURSE = Course(FRAME, (3, 4), {house: (1, 2) * (2 if house < 3 else 1) for house in LARGE.places})


def nested(kind, depth):
    """A tuple, list or dict of so many levels."""
    value = 1
    for _ in range(depth):
        value = {1: value} if kind is dict else kind([value])
    return value


# Values of all kinds that callers can pass, none of them a word, a poly, a paper or the like.
ODD = (
    None, True, False, -1, LONG, -LONG, LONGEST, "", "a", "near", "\n", "x" * 3000,
    [], [1], [[1]], {}, {1: 2}, {True: 1}, {"a": [1]}, {(1, 2): None}, CIRCUIT, (CIRCUIT,), (None,), (True,), ("1",),
    ((), ()), ([],), ({},), ((1,), [1]), (LONG,), (-1,), nested(tuple, 5), nested(list, 5), nested(dict, 5), (1,) * 70,
    ("solved",), ("barred", None), ("shift", {}), ("row", CIRCUIT), ("near", 1, 2), ("far", 1), ("coins", 1),
    ("apart", None), ("told", "1"), ("open", [1]), ([], []), ({}, {}, {}), (("near",), (1,), ()),
    TALK, FRAME, (COURSE,),
)

WRONG_FIELDS = (
    3, 4, 1000, 1009, True, None, "7", LONG, 6, 9, 15, 25, 49, 91, 121, 529, 841, 899, 961, 989, 996, 998, 999, 2, 1, 0,
    -5, -7, False, (7,), [7], {7: 7}, LONGEST, -LONG, CIRCUIT, nested(tuple, 8),
)


WRONG_HALLS = (
    None, True, False, 7, "look", "lie", (), (7, 3, 1, "look"), [7, 3, 1, "look"], {"field": 7}, CIRCUIT, LONGEST,
    (SMALL,), [LARGE], nested(dict, 5), TALK, COURSE,
)
WRONG_LIE_HALLS = WRONG_HALLS + (SMALL, Hall(11, 9, 4, "look"))
# No circuits for a hall with the field 7 and less than nine houses.
WRONG_CIRCUITS = (
    None, True, 7, "circuit", (), PRODUCT.gates, (PRODUCT.gates, PRODUCT.outputs), [PRODUCT], {}, SMALL, (PRODUCT,), TALK,
    Circuit((("input", 9),), ((0, (1,)),)), Circuit((("input", 1),), ((0, (1, 9)),)),
    Circuit((("constant", 7),), ((0, (1,)),)), Circuit((("input", 1), ("times", 0, 7)), ((0, (1,)),)),
    Circuit((("input", 1), ("input", 9)), ((0, (1,)),)), Circuit((("constant", 996), ("constant", 1)), ((1, (1,)),)),
)


def wrong_numbers(least, most):
    """Values that are no integers from the least to the most one."""
    return (
        most + 1, least - 1, True, False, None, str(least), (least,), [most], {least: 1}, LONG, -LONG, LONGEST,
        CIRCUIT, nested(list, 8),
    )


def wrong_rows(field, many):
    """Values that are no tuples of so many numbers, whatever their length is."""
    row = (1,) * (many - 1) if many else ()
    return (
        row + (field,), row + (-1,), row + (True,), row + (False,), row + (None,), row + ("1",), row + ((1,),),
        row + ([],), row + (LONG,), row + ({},), row + (CIRCUIT,), list(row) + [1], list(row), None, True, 1, "1", "",
        {}, {0: 1}, CIRCUIT, LONGEST,
    )


def all_rows(field, many):
    """All rows of so many numbers, ascending."""
    return list(product(range(field), repeat=many))


def all_polys(field, degree):
    """All polys of at most this degree."""
    return sorted(set(trim(row) for row in all_rows(field, degree + 1)))


def trim(row):
    """The row without zeros at its end."""
    row = list(row)
    while row and row[-1] == 0:
        row.pop()
    return tuple(row)


def value(field, poly, place):
    """The value of a poly, by the plain sum of its powers."""
    return sum(x * place ** k for k, x in enumerate(poly)) % field


def dot(field, one, other):
    """The weighted sum of equally long rows."""
    assert len(one) == len(other)
    return sum(x * y for x, y in zip(one, other)) % field


def hiding_row(field, places, many):
    """So many numbers of the product of (b - x) / b over the places."""
    poly = [1]
    for b in places:
        unit = pow(b, -1, field)
        grown = [0] * (len(poly) + 1)
        for k, x in enumerate(poly):
            grown[k] += x
            grown[k + 1] -= x * unit
        poly = [x % field for x in grown]
    return tuple(poly) + (0,) * (many - len(poly))


def swapped(part):
    """What looks like a part of a paper, and is not the same."""
    if isinstance(part, tuple):
        yield list(part)
        yield part + (None,)
        yield part + (0,)
        yield None
        for index in range(len(part)):
            for other in swapped(part[index]):
                yield part[:index] + (other,) + part[index + 1:]
    elif isinstance(part, str):
        yield part.upper()
        yield part + " "
        yield None
        yield (part,)
    else:
        if part in (0, 1):
            yield bool(part)
        yield -1 - part
        yield part + 1009
        yield str(part)
        yield (part,)
        yield [part]
        yield None
        yield LONG


class Case(unittest.TestCase):
    """What the test cases have besides."""

    def is_true(self, found, note=None):
        self.assertIs(found, True, note)

    def is_false(self, found, note=None):
        self.assertIs(found, False, note)

    def same(self, right, function, *arguments):
        """The call gives just this, and changes no argument."""
        before = repr(arguments)
        found = function(*arguments)
        self.assertEqual(found, right, f"{function.__name__}{before}"[:2000])
        self.assertEqual(repr(found), repr(right))
        self.assertEqual(repr(arguments), before)

    def raises(self, error, kept, function, *arguments):
        """The call raises just this error, which keeps just this value, if it keeps one, and changes nothing."""
        before = repr(arguments)
        note = f"{function.__name__}{before}"[:2000]
        try:
            function(*arguments)
        except Exception as caught:
            self.assertIs(type(caught), error, note)
            if error is InvalidNumber:
                self.assertIs(type(caught.given), type(kept), note)
                self.assertTrue(caught.given is kept or caught.given == kept, note)
            elif error is TooMany:
                self.assertIs(type(caught.limit), int, note)
                self.assertEqual(caught.limit, kept, note)
            elif error is Refused:
                self.assertEqual(caught.reason, kept, note)
            elif error is UnknownName:
                self.assertIs(caught.wanted, kept, note)
        else:
            self.fail(note + " raised nothing")
        self.assertEqual(repr(arguments), before)

    def refuses(self, function, good, wrong, then=()):
        """Wrong arguments alone and by two; the errors of `then` only if no argument is wrong.

        `good` has arguments that are taken. `wrong` has for each parameter the error, and values that are
        wrong there. `then` has tuples of an error, what it keeps, and arguments that raise it.
        """
        function(*good)
        self.assertEqual(len(good), len(wrong))
        for error, kept, arguments in then:
            self.raises(error, kept, function, *arguments)
        for index, (error, values) in enumerate(wrong):
            for arguments in (good,) + tuple(arguments for _, _, arguments in then):
                for given in values:
                    self.raises(error, given, function, *replaced(arguments, {index: given}))
            for later in range(index + 1, len(good)):
                self.refuses_two(function, good, wrong, index, later)

    def refuses_two(self, function, good, wrong, index, later):
        """Of two wrong arguments the first one is told."""
        error, values = wrong[index]
        if not values or not wrong[later][1]:
            return
        pairs = [(one, wrong[later][1][0]) for one in values] + [(values[0], other) for other in wrong[later][1]]
        for one, other in pairs:
            self.raises(error, one, function, *replaced(good, {index: one, later: other}))

    def judges(self, function, arguments, others=ODD):
        """Odd values are judged, none of them is right, and none is changed."""
        for odd in others:
            before = repr(odd)
            self.is_false(function(*arguments, odd), (function.__name__, arguments, odd))
            self.assertEqual(repr(odd), before)

    def accepts(self, function, arguments, paper):
        """The paper is right, and nothing that only looks like it."""
        self.is_true(function(*arguments, paper), (function.__name__, arguments, paper))
        for other in swapped(paper):
            self.is_false(function(*arguments, other), (function.__name__, arguments, other))


def steps(call):
    """How many steps, lines and parts of lines, a call takes in the files of the package."""
    count, root = 0, os.path.dirname(evencoins.__file__) + os.sep

    def step(frame, event, _):
        nonlocal count
        count += event in ("opcode", "line")
        return step

    def enter(frame, event, _):
        if not frame.f_code.co_filename.startswith(root):
            return None
        frame.f_trace_opcodes = True
        return step

    before = sys.gettrace()
    # Some Pythons tell of parts of lines only if a frame has asked for it ahead.
    sys._getframe().f_trace_opcodes = True
    sys.settrace(enter)
    try:
        call()
    finally:
        sys.settrace(before)
    return count


def keyed(function, many, *names):
    """The function, with all arguments behind so many passed by these keywords."""
    def call(*arguments):
        return function(*arguments[:many], **dict(zip(names, arguments[many:])))
    call.__name__ = function.__name__
    return call


def replaced(arguments, changes):
    """The arguments with some of them exchanged."""
    return tuple(changes.get(index, argument) for index, argument in enumerate(arguments))
