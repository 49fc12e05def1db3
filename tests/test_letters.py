"""Stage 11: letters."""

from evencoins.errors import InvalidCircuit, InvalidHall, InvalidLot, InvalidNumber, InvalidOperation, UnknownName
from evencoins.plan.circuits import Circuit
from evencoins.talk.halls import LINE_WORDS, WALL_WORDS, Hall, batches, round_kinds
from evencoins.talk.letters import blank_letter, is_lies, is_plain, is_right_letter, right_letter, spoken
from tests.helper import (
    LARGE, LONG, LONGEST, ODD, PRODUCT, SMALL, WRONG_CIRCUITS, WRONG_HALLS, Case, keyed, nested, swapped,
    wrong_numbers,
)
from tests.test_halls import BARE, DEEP, LINES, WIDE, WIDEST

HALL = (InvalidHall, WRONG_HALLS)
CIRCUIT = (InvalidCircuit, WRONG_CIRCUITS)
ROW, PAIR = (1, 2), (3, 4)
BIG = 10 ** 60 - 1


def sizes(hall, circuit, word, batch, sender, goal):
    """How many members a letter has, and how many numbers each one has: 0 for numbers alone."""
    dealings = [] if batch is None else batches(hall, circuit)[batch]
    own = sum(dealer == sender for _, dealer in dealings)
    return {
        "shares": (own, 0), "rows": (own, hall.most + 1), "points": (len(dealings), 0), "votes": (len(dealings), 0),
        "syndromes": (len(circuit.levels[batch - 1]) if batch else 0, hall.houses - 2 * hall.most - 1),
        "outputs": (sum(goal in houses for _, houses in circuit.outputs), 0),
    }[word]


def filled(many, width, number):
    """A letter with this number everywhere."""
    return ((number,) * width if width else number,) * many


def all_letters(hall, circuit):
    """All tuples of a word, a batch, a sender and a goal for which there are letters."""
    for word in ("shares",) if hall.kind == "look" else LINE_WORDS[1:4] + WALL_WORDS:
        for batch in range(1 if word == "syndromes" else 0, len(circuit.levels) + 1):
            for sender in hall.places:
                for goal in (0,) if word in WALL_WORDS else [other for other in hall.places if other != sender]:
                    yield word, batch, sender, goal
    for sender in hall.places:
        for goal in hall.places:
            if goal != sender:
                yield "outputs", None, sender, goal


class ExamplesTest(Case):

    def test_examples(self):
        self.assertEqual([is_right_letter(LARGE, PRODUCT, "rows", 0, 1, 2, ((3, 4),)),
                          is_right_letter(LARGE, PRODUCT, "complaints", 0, 2, 0, ((0, 2, 5),))], [True, False])
        self.assertEqual([blank_letter(LARGE, PRODUCT, "syndromes", 1, 1, 2),
                          right_letter(LARGE, PRODUCT, "votes", 0, 4, 0, (1, 2)),
                          right_letter(LARGE, PRODUCT, "outputs", None, 4, 3, (6,))], [((0, 0),), (0, 0), (6,)])
        self.assertEqual([is_lies(LARGE, PRODUCT, (2,), {(1, 2, 3): None, (3, 2, 0): ()}),
                          is_lies(LARGE, PRODUCT, (2,), {(1, 2, 0): ()})], [True, False])

    def test_words(self):
        self.assertEqual(LINE_WORDS, ("shares", "rows", "points", "syndromes", "outputs"))
        self.assertEqual(WALL_WORDS, ("complaints", "answers", "votes"))


class PlainTest(Case):

    def test_plain(self):
        for value in (None, 0, -1, 996, BIG, -BIG, (), (0,), (None, (1, (), -3)), ((),) * 1000, (0,) * 1000,
                      ((0,) * 1000,) * 30, ((0, 1, (2, 3, 4)), (1, 1, (0, 0, 0)))):
            self.is_true(is_plain(value))
        for value in (True, False, "", "a", [], {}, 10 ** 60, -10 ** 60, LONGEST, -LONGEST, (True,), ((0, False),),
                      ("a",), ([],), ({},), (0,) * 1001, ((),) * 1001, ((0,) * 1001,), PRODUCT, (PRODUCT,), (1, [2]),
                      (None, (None, (10 ** 60,))), 1.5, (1.5,)):
            self.is_false(is_plain(value))

    def test_nesting(self):
        for core in ((), (1,), (None, 2), (0,) * 1000):
            value = core
            for many in range(1, 12):
                self.assertIs(is_plain(value), many <= 6)
                self.assertIs(is_plain((3, value)), many <= 5)
                value = (value,)
        self.assertEqual([is_plain(nested(tuple, many)) for many in (5, 6, 7)], [True, True, False])

    def test_values(self):
        for odd in ODD:
            self.assertIs(is_plain(odd), odd in (None, -1, (None,), ((), ()), (-1,), nested(tuple, 5), (1,) * 70) and
                          not isinstance(odd, bool), odd)


class FormsTest(Case):

    def right(self, hall, circuit, where, value):
        """The value has the form, and counts as it is."""
        self.same(True, is_right_letter, hall, circuit, *where, value)
        self.same(value, right_letter, hall, circuit, *where, value)

    def wrong(self, hall, circuit, where, value, blank):
        """The value has not the form, and the blank counts."""
        self.same(False, is_right_letter, hall, circuit, *where, value)
        self.same(blank, right_letter, hall, circuit, *where, value)

    def test_numbers_and_rows(self):
        for hall, circuit in ((SMALL, PRODUCT), (SMALL, DEEP), (LARGE, PRODUCT), (LARGE, DEEP), (WIDE, BARE),
                              (WIDEST, BARE)):
            top = hall.field - 1
            for where in all_letters(hall, circuit):
                word, batch, sender, goal = where
                if word in ("complaints", "answers"):
                    self.same((), blank_letter, hall, circuit, *where)
                    continue
                many, width = sizes(hall, circuit, *where)
                blank = filled(many, width, 0)
                self.same(blank, blank_letter, hall, circuit, *where)
                self.right(hall, circuit, where, blank)
                self.right(hall, circuit, where, filled(many, width, 1))
                if many:
                    votes = word == "votes"
                    (self.wrong if votes else self.right)(hall, circuit, where, filled(many, width, top), *(
                        [blank] if votes else []))
                    for number in (top + 1, -1, True, None, "1", (1,), LONG):
                        last = filled(1, width - 1 if width else 0, 1)[0]
                        member = (last if width > 1 else ()) + (number,) if width else number
                        self.wrong(hall, circuit, where, filled(many - 1, width, 1) + (member,), blank)
                        self.wrong(hall, circuit, where, (member,) + filled(many - 1, width, 1), blank)
                    self.wrong(hall, circuit, where, filled(many - 1, width, 1), blank)
                    self.wrong(hall, circuit, where, list(filled(many, width, 1)), blank)
                    if width:
                        self.wrong(hall, circuit, where, filled(many, width + 1, 1), blank)
                        self.wrong(hall, circuit, where, filled(many, width - 1, 1), blank)
                        self.wrong(hall, circuit, where, (list(filled(1, width, 1)[0]),) * many, blank)
                        self.wrong(hall, circuit, where, (0,) * many, blank)
                self.wrong(hall, circuit, where, filled(many + 1, width, 1), blank)

    def test_odd_values(self):
        for hall, circuit in ((SMALL, PRODUCT), (LARGE, PRODUCT)):
            for where in list(all_letters(hall, circuit))[::3]:
                blank = blank_letter(hall, circuit, *where)
                self.judges(is_right_letter, (hall, circuit) + where)
                for odd in ODD:
                    self.same(blank, right_letter, hall, circuit, *where, odd)

    def test_complaints(self):
        where = ("complaints", 0, 2, 0)
        for value in (
                (), ((0, 1, 0),), ((1, 5, 6),), ((0, 1, 0), (0, 3, 0), (1, 1, 6)), ((0, 5, 6), (1, 1, 0)),
                tuple((index, house, 3) for index in (0, 1) for house in (1, 3, 4, 5))):
            self.right(LARGE, PRODUCT, where, value)
            for other in swapped(value):
                if not is_right_by_hand(other):
                    self.wrong(LARGE, PRODUCT, where, other, ())
        for value in (
                ((0, 2, 5),), ((1, 1, 3), (0, 1, 3)), ((0, 3, 0), (0, 1, 0)), ((0, 1, 0), (0, 1, 1)),
                ((0, 1, 0), (0, 1, 0)), ((2, 1, 0),), ((-1, 1, 0),), ((0, 0, 0),), ((0, 6, 0),), ((0, 1, 7),),
                ((0, 1, -1),), ((0, 1),), ((0, 1, 0, 0),), ([0, 1, 0],), [(0, 1, 0)], ((0, 1, True),), ((0, True, 0),),
                ((False, 1, 0),), ((0, 1, None),), ((0, None, 0),), ((None, 1, 0),), (0, 1, 0), (None,), None, 0,
                ((0, 1, (0,)),), ((0, 1, 0), None), ((0, 1, "0"),), {(0, 1, 0): 1}, ((0, 1, LONG),)):
            self.wrong(LARGE, PRODUCT, where, value, ())
        self.right(LARGE, PRODUCT, ("complaints", 0, 1, 0), ((0, 2, 5),))
        self.right(LARGE, PRODUCT, ("complaints", 1, 1, 0), ((4, 2, 5),))
        self.wrong(LARGE, PRODUCT, ("complaints", 1, 1, 0), ((5, 2, 5),), ())
        self.wrong(LARGE, PRODUCT, ("complaints", 1, 3, 0), ((4, 3, 5),), ())
        self.wrong(WIDE, BARE, ("complaints", 0, 3, 0), ((0, 1, 5),), ())

    def test_answers(self):
        where = ("answers", 1, 2, 0)
        right = (2, 3)
        for value in (
                (), ((1, 1, (0, 6)),), ((1, 2, right),), ((1, 1, right), (1, 2, right), (1, 5, right)),
                ((1, 4, right), (1, 5, (0, 0)))):
            self.right(LARGE, PRODUCT, where, value)
        for value in (
                ((0, 1, right),), ((2, 1, right),), ((5, 1, right),), ((-1, 1, right),), ((1, 0, right),),
                ((1, 6, right),), ((1, 1, (2,)),), ((1, 1, (2, 3, 4)),), ((1, 1, [2, 3]),), ((1, 1, (2, 7)),),
                ((1, 1, (2, -1)),), ((1, 1, (2, True)),), ((1, 1, (2, None)),), ((1, 1, 2),), ((1, 1, None),),
                ((1, 1),), ((1, 1, right, 0),), ([1, 1, right],), [(1, 1, right)], ((1, 2, right), (1, 1, right)),
                ((1, 1, right), (1, 1, right)), ((1, 1, (0, 0)), (1, 1, right)), ((True, 1, right),),
                ((1, True, right),), ((None, 1, right),), ((1, None, right),), (1, 1, right), None, 0, (None,),
                ((1, 1, right), None), {(1, 1, right): 1}, ((1, 1, ()),), ((1, 1, (right, right)),)):
            self.wrong(LARGE, PRODUCT, where, value, ())
        own = Circuit((("input", 2), ("input", 1), ("input", 2)), ((0, (1,)),))
        self.right(LARGE, own, ("answers", 0, 2, 0), ((0, 5, right), (2, 1, right)))
        self.wrong(LARGE, own, ("answers", 0, 2, 0), ((2, 1, right), (0, 5, right)), ())
        self.wrong(LARGE, own, ("answers", 0, 2, 0), ((0, 5, right), (1, 1, right)), ())
        self.right(LARGE, own, ("answers", 0, 1, 0), ((1, 1, right),))
        self.wrong(LARGE, own, ("answers", 0, 3, 0), ((1, 1, right),), ())
        self.right(WIDE, BARE, ("answers", 1, 9, 0), ((8, 9, (1, 2, 10)),))
        self.wrong(LARGE, PRODUCT, ("answers", 1, 5, 0), ((-1, 1, right),), ())

    def test_syndromes(self):
        where = ("syndromes", 1, 1, 2)
        self.right(LARGE, DEEP, where, ((1, 2), (0, 6)))
        self.right(LARGE, DEEP, ("syndromes", 2, 1, 2), ((1, 2),))
        self.right(WIDE, BARE, ("syndromes", 1, 1, 2), ((1, 2, 3, 10),))
        for value in (((1, 2),), ((1, 2), (0, 7)), ((1, 2), (0,)), ((1, 2), 3), ((1, 2), (0, 6), (0, 0))):
            self.wrong(LARGE, DEEP, where, value, ((0, 0), (0, 0)))

    def test_outputs(self):
        self.right(LARGE, DEEP, ("outputs", None, 3, 1), (1, 6))
        self.right(LARGE, DEEP, ("outputs", None, 3, 2), (6, 1))
        self.right(LARGE, DEEP, ("outputs", None, 3, 4), ())
        self.right(SMALL, DEEP, ("outputs", None, 2, 3), (6,))
        self.wrong(LARGE, DEEP, ("outputs", None, 3, 1), (1,), (0, 0))
        self.wrong(LARGE, DEEP, ("outputs", None, 3, 4), (1,), ())


def is_right_by_hand(value):
    """Whether what came of spoiling complaints of house 2 is right all the same."""
    if not isinstance(value, tuple) or any(type(part) is not tuple or len(part) != 3 for part in value):
        return False
    if any(type(x) is not int for part in value for x in part):
        return False
    if any(not (0 <= a <= 1 and 1 <= b <= 5 and b != 2 and 0 <= c <= 6) for a, b, c in value):
        return False
    return [part[:2] for part in value] == sorted(set(part[:2] for part in value))


class LiesTest(Case):

    def test_rounds(self):
        for hall, circuit in ((LARGE, PRODUCT), (LARGE, BARE), (WIDE, DEEP)):
            for lines in (False, True):
                words = round_kinds(hall, circuit, lines=lines)
                for number in range(-1, len(words) + 3):
                    for goal in range(-1, hall.houses + 2):
                        right = 1 <= number <= len(words) and goal != 2 and (
                            goal == 0 if words[number - 1] in WALL_WORDS else 1 <= goal <= hall.houses)
                        for lot in ((2,), (2,) if hall is LARGE else (2, 7)):
                            self.assertIs(is_lies(hall, circuit, lot, {(number, 2, goal): 1}, lines=lines), right)
                        self.is_false(is_lies(hall, circuit, (3,), {(number, 2, goal): 1}, lines=lines))
                        self.is_false(is_lies(hall, circuit, (), {(number, 2, goal): 1}, lines=lines))

    def test_values(self):
        for value in (None, 0, -5, BIG, (), (1, (None, (2,))), nested(tuple, 6), (0,) * 1000):
            self.is_true(is_lies(LARGE, PRODUCT, (2,), {(1, 2, 3): value}))
        for value in (True, "a", [], {}, LONG, (0,) * 1001, nested(tuple, 7), PRODUCT, (False,)):
            self.is_false(is_lies(LARGE, PRODUCT, (2,), {(1, 2, 3): value}))
            self.is_false(is_lies(LARGE, PRODUCT, (2,), {(1, 2, 1): 1, (1, 2, 3): value}))

    def test_keys(self):
        for key in ((1, 2), (1, 2, 3, 4), (1, 2, True), (True, 2, 3), (1, True, 3), (1, 2, None), (1, None, 3),
                    (None, 2, 3), "123", 1, None, True, (), (1, 3, 2), (1, 2, 2), (1, 0, 3), (0, 2, 3), (13, 2, 3),
                    (1, 2, 6), (1, 2, -1), (1, 2, 0), (3, 2, 1), (3, 2, False), ("1", 2, 3), (1, (2,), 3), (LONG, 2, 3)):
            self.is_false(is_lies(LARGE, PRODUCT, (2,), {key: 1}), key)
        self.is_false(is_lies(LARGE, PRODUCT, (1,), {(1, True, 3): 1}))
        self.is_true(is_lies(LARGE, PRODUCT, (1,), {(12, 1, 3): 1, (1, 1, 5): 2, (5, 1, 0): 3}))

    def test_three_hundred(self):
        keys = [(number, house, goal) for number in range(1, 100) for house in (2, 7) for goal in range(1, 10)
                if goal != house]
        keys = [key for key in keys if is_lies(WIDE, DEEP, (2, 7), {key: 0}, lines=True)]
        self.assertGreater(len(keys), 302)
        for many, right in ((0, True), (299, True), (300, True), (301, False), (302, False)):
            self.assertIs(is_lies(WIDE, DEEP, (2, 7), dict.fromkeys(keys[:many], 0), lines=True), right)
            self.assertIs(is_lies(WIDE, DEEP, (2, 7), dict.fromkeys(keys[-many:] if many else [], 0), lines=True), right)

    def test_in_halls_that_look(self):
        for lines in (False, True):
            for lot in ((), (2,)):
                self.is_true(is_lies(SMALL, PRODUCT, lot, {}, lines=lines))
                self.is_false(is_lies(SMALL, PRODUCT, lot, {(1, 2, 3): (0,)}, lines=lines))
                self.is_false(is_lies(SMALL, PRODUCT, lot, {(2, 2, 3): None}, lines=lines))
                self.is_false(is_lies(SMALL, PRODUCT, lot, None, lines=lines))

    def test_odd_values(self):
        for odd in ODD:
            for hall in (SMALL, LARGE):
                before = repr(odd)
                self.assertIs(is_lies(hall, PRODUCT, (2,), odd), odd == {})
                self.assertEqual(repr(odd), before)

    def test_spoken(self):
        lies = {(1, 2, 3): None, (3, 2, 0): (), (4, 2, 0): 7}
        for number, sender, goal, value, right in (
                (1, 2, 3, (1,), None), (3, 2, 0, (1,), ()), (4, 2, 0, None, 7), (1, 2, 4, (1,), (1,)),
                (2, 2, 3, (), ()), (1, 3, 2, None, None), (3, 2, 1, 5, 5), (4, 2, 0, 7, 7)):
            self.same(right, spoken, lies, number, sender, goal, value)
        self.same((3,), spoken, {}, 1, 1, 2, (3,))


class RefusalsTest(Case):

    def wrong_words(self, hall):
        """What is no word of the hall."""
        others = ("rows", "points", "syndromes") + WALL_WORDS if hall.kind == "look" else ("shares",)
        return others + ("say", "tell", "king", "share", "Rows", "", None, True, 1, (), ("rows",), ["rows"], {}, PRODUCT)

    def test_letters(self):
        for hall, circuit, word, batch, sender, goal in (
                (SMALL, PRODUCT, "shares", 1, 2, 3), (LARGE, PRODUCT, "rows", 0, 2, 3), (LARGE, DEEP, "votes", 3, 5, 0),
                (LARGE, DEEP, "syndromes", 1, 5, 1), (LARGE, DEEP, "outputs", None, 4, 1),
                (SMALL, DEEP, "outputs", None, 1, 3), (LARGE, DEEP, "complaints", 0, 1, 0),
                (LARGE, DEEP, "answers", 2, 1, 0), (LARGE, DEEP, "points", 2, 1, 2)):
            levels = len(circuit.levels)
            least = 1 if word == "syndromes" else 0
            numbers = wrong_numbers(least, levels) if batch is not None else (0, 1, True, False, (), "None", -1, LONG)
            houses = wrong_numbers(1, hall.houses)
            if word in WALL_WORDS:
                goals = (1, sender, -1, 6, True, False, None, (), "0", LONG, [0])
            else:
                goals = houses + (sender,)
            wrong = (HALL, CIRCUIT, (UnknownName, self.wrong_words(hall)), (InvalidNumber, numbers),
                     (InvalidNumber, houses), (InvalidNumber, goals))
            good = (hall, circuit, word, batch, sender, goal)
            self.refuses(blank_letter, good, wrong)
            for function in (is_right_letter, right_letter):
                for value in ((0,), None):
                    self.refuses(function, good + (value,), wrong + ((None, ()),))

    def test_batches(self):
        for word in ("rows", "votes"):
            for batch in (0, 1):
                blank_letter(LARGE, PRODUCT, word, batch, 2, 0 if word == "votes" else 1)
            for batch in (-1, 2, None, True):
                self.raises(InvalidNumber, batch, blank_letter, LARGE, PRODUCT, word, batch, 2, 9)
        self.raises(InvalidNumber, 0, blank_letter, LARGE, PRODUCT, "syndromes", 0, 2, 1)
        self.raises(InvalidNumber, 0, blank_letter, LARGE, PRODUCT, "outputs", 0, 2, 1)
        self.raises(InvalidNumber, 1, blank_letter, LARGE, Circuit((("input", 1),), ((0, (1,)),)), "rows", 1, 2, 1)

    def test_lies(self):
        lots = (InvalidLot, (None, 2, [2], (1, 2), (0,), (6,), (True,), ("2",), {2: 2}, (2, 2), LARGE, LONG))
        for value in ({}, None, {(1, 2, 3): 1}):
            self.refuses(is_lies, (LARGE, PRODUCT, (2,), value), (HALL, CIRCUIT, lots, (None, ())))
            self.refuses(keyed(is_lies, 4, "lines"), (LARGE, PRODUCT, (2,), value, True),
                         (HALL, CIRCUIT, lots, (None, ()), (InvalidOperation, LINES[1])))
            self.refuses(keyed(is_lies, 4, "lines"), (SMALL, PRODUCT, (2,), value, False),
                         (HALL, CIRCUIT, lots, (None, ()), (InvalidOperation, LINES[1])))
        self.assertEqual(is_lies(WIDE, PRODUCT, (3, 9), {}), True)
        self.assertEqual(is_lies(Hall(7, 5, 2, "look"), PRODUCT, (3, 5), {}), True)
