"""Stage 20: a wall from lines."""

import random
from itertools import combinations, product

from evencoins.errors import InvalidHall, InvalidLies, InvalidLot, InvalidNumber, InvalidWord
from evencoins.talk.halls import Hall
from evencoins.talk.kings import (
    agreed, is_late_paper, kept, late_paper, latest, most_heard, phases, settling, walled,
)
from tests.helper import LARGE, LONG, ODD, PRODUCT, WRONG_LIE_HALLS, Case, nested, steps, wrong_numbers
from tests.test_halls import WIDE

HALL = (InvalidHall, WRONG_LIE_HALLS)
HALLS = (LARGE, Hall(7, 6, 1, "lie"), Hall(11, 8, 1, "lie"), Hall(11, 9, 1, "lie"), WIDE)
NOT_PLAIN = (True, False, "a", "", [], [1], {}, LONG, (True,), ("a",), (0,) * 1001, nested(tuple, 7), PRODUCT, (LONG,))
# Unlike plain values, so that none is mixed up with another one.
VALUES = (0, 1, None, (), (0,), (1, (2, None)))


def lots_of(hall):
    """All lots of a hall."""
    return [lot for many in range(hall.most + 1) for lot in combinations(hall.places, many)]


def most_by(values):
    """The most heard value and how many told it."""
    best = max(values.count(value) for value in values)
    return next((value, best) for value in values if values.count(value) == best)


def phases_by(hall, values, lies, ahead=0):
    """What all houses hold, house by house and round by round; so many rounds are ahead."""
    n, rows = hall.houses, [tuple(values)]
    for phase in range(1, hall.most + 2):
        first, second = ahead + 2 * phase - 1, ahead + 2 * phase
        told = {i: {j: lies.get((first, i, j), rows[-1][i - 1]) for j in range(1, n + 1)} for i in range(1, n + 1)}
        heard = {j: most_by([told[i][j] for i in range(1, n + 1)]) for j in range(1, n + 1)}
        row = []
        for j in range(1, n + 1):
            king = lies.get((second, phase, j), heard[phase][0])
            row.append(heard[j][0] if 2 * heard[j][1] > n + 2 * hall.most else king)
        rows.append(tuple(row))
    return tuple(rows)


def random_lies(told, hall, lot, last, values, many):
    """Lies of the lot's houses, about so many for each house in each round."""
    lies = {}
    for number in range(1, last + 1):
        for sender in lot:
            for goal in hall.places:
                if goal != sender and told.randrange(10) < many:
                    lies[number, sender, goal] = told.choice(values)
    return lies


class ExamplesTest(Case):

    def test_examples(self):
        begin, lies = (0, 1, 1, 0, 0), {(2, 1, 2): 1, (2, 1, 3): 1}
        self.assertEqual([most_heard((4, 2, 2, 4, 9)), kept(LARGE, (4, 4, 4, 2, 2), 9), kept(LARGE, (4, 4, 4, 4, 2), 9),
                          walled(LARGE, 2, (), (2,), {(1, 2, 1): 7})], [(4, 2), 9, 4, ()])
        self.assertEqual([phases(LARGE, begin, (1,), lies), settling(LARGE, begin, (1,), lies), latest(LARGE, (1,))],
                         [((0, 1, 1, 0, 0), (0, 1, 1, 0, 0), (0, 0, 0, 0, 0)), 2, 2])


class HeardTest(Case):

    def test_most_heard(self):
        for many in range(1, 6):
            for values in product(VALUES[:4], repeat=many):
                self.same(most_by(values), most_heard, values)
        self.same((3, 9), most_heard, (3,) * 9)
        self.same((2, 4), most_heard, (1, 2, 3, 2, 1, 1, 2, 2, 0))
        self.same(((0,), 2), most_heard, ((1,), (0,), 0, None, (0,)))

    def test_kept(self):
        for hall in HALLS:
            n, t = hall.houses, hall.most
            for many in range(1, n + 1):
                heard = ((0,),) * many + tuple(range(n - many))
                right = (0,) if many > 1 and 2 * many > n + 2 * t else None
                self.same(right, kept, hall, heard, None)
                self.same(right, kept, hall, heard[::-1], None)
        for values in product((0, 1, ()), repeat=5):
            value, many = most_by(values)
            self.same(value if many >= 4 else 7, kept, LARGE, values, 7)

    def test_surely_many(self):
        for hall, least in zip(HALLS, (4, 5, 6, 6, 7)):
            n = hall.houses
            self.assertEqual(kept(hall, (1,) * least + (0,) * (n - least), 5), 1)
            self.assertEqual(kept(hall, (1,) * (least - 1) + (0,) * (n - least + 1), 5), 5)


class PhasesTest(Case):

    def is_right(self, hall, values, lot, lies):
        """All functions tell of the talk what the rounds, one by one, make of it."""
        rows = phases_by(hall, values, lies)
        self.same(rows, phases, hall, values, lot, lies)
        free = [house - 1 for house in hall.places if house not in lot]
        settled = [k for k, row in enumerate(rows) if all(row[k] == row[free[0]] for k in free)]
        self.assertTrue(settled)
        self.assertEqual(settled, list(range(settled[0], hall.most + 2)))
        self.assertLessEqual(settled[0], free[0] + 1)
        self.same(settled[0], settling, hall, values, lot, lies)
        self.same(rows[-1][free[0]], agreed, hall, values, lot, lies)
        if settled[0] == 0:
            self.assertEqual(rows[-1][free[0]], values[free[0]])

    def test_all_lots(self):
        told = random.Random(1)
        for hall in HALLS:
            for lot in lots_of(hall):
                for values in [tuple(told.choice(VALUES[:2 + told.randrange(5)]) for _ in hall.places) for _ in range(3)]:
                    for many in (0, 3, 9):
                        lies = random_lies(told, hall, lot, 2 * hall.most + 2, VALUES[:3], many)
                        self.is_right(hall, values, lot, lies)

    def test_many_lies_of_two(self):
        hall, values = Hall(13, 9, 2, "lie"), (0, 1, 1, 0, 0, 1, 0, 1, 1)
        for number in (0, 1, (), 5):
            lies = {(r, a, b): number for r in range(1, 7) for a in (1, 2) for b in range(1, 10) if a != b}
            self.is_right(hall, values, (1, 2), lies)
            late = settling(hall, values, (1, 2), lies) == 3
            self.assertIs(is_late_paper(hall, (1, 2), (values, lies)), late)

    def test_all_values_of_two(self):
        told = random.Random(2)
        for values in product((0, 1), repeat=5):
            for lot in lots_of(LARGE):
                self.is_right(LARGE, values, lot, {})
                self.is_right(LARGE, values, lot, random_lies(told, LARGE, lot, 4, (0, 1), 7))

    def test_all_lies_of_a_king(self):
        for values in ((0, 1, 1, 0, 0), (1, 0, 1, 0, 1), (0, 0, 0, 1, 0)):
            for told in product((0, 1), repeat=4):
                lies = {(2, 1, goal): number for goal, number in zip((2, 3, 4, 5), told)}
                self.is_right(LARGE, values, (1,), lies)

    def test_one_value_stays(self):
        told = random.Random(3)
        for hall in (LARGE, WIDE):
            for lot in lots_of(hall):
                values = tuple(told.choice(VALUES) if house in lot else (5,) for house in hall.places)
                lies = random_lies(told, hall, lot, 2 * hall.most + 2, VALUES, 8)
                self.assertEqual(agreed(hall, values, lot, lies), (5,))
                self.assertEqual(settling(hall, values, lot, lies), 0)

    def test_led_houses_go_by_the_rules(self):
        rows = phases(LARGE, (3, 1, 1, 1, 1), (1,), {})
        self.assertEqual(rows, ((3, 1, 1, 1, 1), (1,) * 5, (1,) * 5))
        rows = phases(LARGE, (3, 1, 1, 1, 1), (1,), {(1, 1, 2): 1, (2, 1, 3): 9})
        self.assertEqual(rows, ((3, 1, 1, 1, 1), (1,) * 5, (1,) * 5))

    def test_lies_of_who_tells_nothing(self):
        lies = {(2, 2, goal): 9 for goal in (1, 3, 4, 5)}
        self.assertEqual(phases(LARGE, (0, 1, 1, 0, 0), (2,), lies), phases(LARGE, (0, 1, 1, 0, 0), (2,), {}))
        lies = {(4, 1, goal): 9 for goal in (2, 3, 4, 5)}
        self.assertEqual(phases(LARGE, (0, 1, 1, 0, 0), (1,), lies), phases(LARGE, (0, 1, 1, 0, 0), (1,), {}))

    def test_not_true(self):
        self.assertEqual(agreed(LARGE, (1, 0, 0, 0, 1), (5,), {(1, 5, 1): 1, (3, 5, 1): 1}), 0)
        lies = {(2, 1, goal): 9 for goal in (2, 3, 4, 5)}
        self.assertEqual(agreed(LARGE, (0, 1, 1, 0, 0), (1,), lies), 9)
        self.assertEqual(agreed(WIDE, (1, 0, 0, 0, 0, 0, 1, 1, 1), (1, 2), {
            (number, house, goal): 1 for number in (1, 2, 3, 4) for house in (1, 2) for goal in range(3, 10)}), 1)


class WalledTest(Case):

    def test_free_texts(self):
        told = random.Random(4)
        for hall in HALLS:
            for lot in lots_of(hall):
                for house in hall.places:
                    lies = random_lies(told, hall, lot, 2 * hall.most + 3, VALUES[:4], 5)
                    text = told.choice(VALUES + ((3, 4),))
                    start = tuple(lies.get((1, house, goal), text) for goal in hall.places)
                    row = phases_by(hall, start, lies, 1)[-1]
                    free = [row[other - 1] for other in hall.places if other not in lot]
                    self.assertEqual(free, free[:1] * len(free))
                    self.same(free[0], walled, hall, house, text, lot, lies)
                    if house not in lot:
                        self.assertEqual(free[0], text)

    def test_first_round(self):
        self.assertEqual(walled(LARGE, 2, 0, (2,), {(1, 2, goal): 5 for goal in (1, 3, 4, 5)}), 5)
        self.assertEqual(walled(LARGE, 3, 0, (2,), {(1, 2, goal): 5 for goal in (1, 3, 4, 5)}), 0)


class LateTest(Case):

    def test_latest(self):
        for hall in HALLS:
            for lot in lots_of(hall):
                self.same(min(house for house in hall.places if house not in lot), latest, hall, lot)
        self.assertEqual([latest(WIDE, lot) for lot in ((), (1,), (2,), (1, 2), (1, 9), (2, 3))], [1, 2, 1, 3, 2, 1])

    def test_papers(self):
        for hall in HALLS:
            for lot in lots_of(hall):
                values, lies = late_paper(hall, lot)
                self.assertEqual(settling(hall, values, lot, lies), latest(hall, lot))
                self.same(True, is_late_paper, hall, lot, (values, lies))
                self.is_false(is_late_paper(hall, lot, [values, lies]))
                self.is_false(is_late_paper(hall, lot, (values, lies, None)))
                self.is_false(is_late_paper(hall, lot, (list(values), lies)))
                self.is_false(is_late_paper(hall, lot, (values, list(lies))))
                self.is_false(is_late_paper(hall, lot, (values[1:], lies)))
                self.is_false(is_late_paper(hall, lot, (values + (0,), lies)))
                self.is_false(is_late_paper(hall, lot, ((1,) * hall.houses, lies if lot else {})))
                self.is_false(is_late_paper(hall, lot, (values, {**lies, (0, 1, 2): 1})))
                self.is_false(is_late_paper(hall, lot, (tuple(map(bool, values)), lies)))

    def test_others(self):
        begin = (0, 1, 1, 0, 0)
        self.is_true(is_late_paper(LARGE, (1,), (begin, {(2, 1, 2): 1, (2, 1, 3): 1})))
        self.is_true(is_late_paper(LARGE, (1,), ((None, (), (), None, None), {(2, 1, 2): (), (2, 1, 3): (), (4, 1, 2): 5})))
        self.is_false(is_late_paper(LARGE, (1,), (begin, {})))
        self.is_false(is_late_paper(LARGE, (1,), (begin, {(2, 1, 2): 1, (2, 1, 3): 1, (2, 2, 1): 0})))
        self.is_false(is_late_paper(LARGE, (1,), (begin, {(2, 1, 2): 1, (2, 1, 3): 1, (5, 1, 3): 1})))
        self.is_false(is_late_paper(LARGE, (1,), (begin, {(2, 1, 2): True, (2, 1, 3): 1})))
        self.is_true(is_late_paper(LARGE, (), (begin, {})))
        self.is_false(is_late_paper(LARGE, (), ((0,) * 5, {})))
        self.is_true(is_late_paper(LARGE, (2,), ((0, 0, 0, 0, 1), {})))
        self.is_false(is_late_paper(LARGE, (2,), ((0, 1, 0, 0, 0), {})))

    def test_all_papers_of_a_kind(self):
        found = {True: 0, False: 0}
        for values in product((0, 1), repeat=5):
            for told in product((0, 1), repeat=4):
                lies = {(2, 1, goal): number for goal, number in zip((2, 3, 4, 5), told)}
                rows = phases_by(LARGE, values, lies)
                right = len(set(rows[0][1:])) > 1 and len(set(rows[1][1:])) > 1
                self.assertIs(is_late_paper(LARGE, (1,), (values, lies)), right)
                found[right] += 1
        self.assertGreater(min(found.values()), 100)

    def test_values(self):
        for lot in ((), (1,), (3,)):
            self.judges(is_late_paper, (LARGE, lot))
            self.judges(is_late_paper, (LARGE, lot), [((0, 1, 1, 0, 0), odd) for odd in ODD if odd != {}])
            self.judges(is_late_paper, (LARGE, lot), [(odd, {}) for odd in ODD])
            self.judges(is_late_paper, (LARGE, lot), [((0, 1, 1, 0, odd), {}) for odd in NOT_PLAIN])


class CostTest(Case):

    def test_settled_at_once(self):
        lies = {(number, house, goal): 0 for number in range(1, 7) for house in (1, 2) for goal in WIDE.places
                if goal != house}
        for values in ((5,) * 9, (1, 2) + ((3,),) * 7):
            self.assertEqual(settling(WIDE, values, (1, 2), lies), 0)
            for told in ({}, lies):
                self.assertLess(steps(lambda: settling(WIDE, values, (1, 2), told)),
                                steps(lambda: phases(WIDE, values, (1, 2), told)))

    def test_what_all_hear_is_counted_once(self):
        values, lies = late_paper(WIDE, (1, 2))
        told = {**lies, **{(number, 1, goal): 1 for number in (1, 3, 5) for goal in WIDE.places if goal != 1}}
        self.assertLess(2 * steps(lambda: phases(WIDE, values, (1, 2), lies)),
                        steps(lambda: phases(WIDE, values, (1, 2), told)))

    def test_papers_are_judged_as_talks_are(self):
        for hall in HALLS:
            for lot in lots_of(hall):
                values, lies = late_paper(hall, lot)
                judging = steps(lambda: is_late_paper(hall, lot, (values, lies)))
                self.assertLess(2 * judging, 3 * steps(lambda: settling(hall, values, lot, lies)))


class RefusalsTest(Case):

    def values_of(self, many):
        """What are no plain values of so many houses."""
        row = (0,) * (many - 1)
        return (InvalidWord, tuple(row + (odd,) for odd in NOT_PLAIN) + (
            row, row + (0, 0), (), list(row) + [0], None, 1, "1", {}, PRODUCT))

    def lies_of(self, last):
        """What are no lies of house 2 for so many rounds."""
        keys = ((0, 2, 1), (last + 1, 2, 1), (1, 1, 2), (1, 2, 2), (1, 2, 0), (1, 2, 6), (1, 0, 1), (1, 6, 1),
                (True, 2, 1), (1, True, 2), (1, 2, True), (False, 2, 1), (1, False, 1), (1, 2, False), (1, 2), (1, 2, 1, 1),
                None, 1, "121", (), (None, 2, 1),
                (1, None, 1), (1, 2, None), ("1", 2, 1), (LONG, 2, 1), (-1, 2, 1), (1, (2,), 1))
        return (InvalidLies, tuple({key: 0} for key in keys) + tuple({(1, 2, 1): odd} for odd in NOT_PLAIN) + (
            None, (), [], 1, "", [(1, 2, 1)], PRODUCT, {(1, 2, 1): 0, (1, 2, 2): 0}))

    LOT = (InvalidLot, (None, 2, [2], (1, 2), (0,), (6,), (True,), ("2",), {2: 2}, (2, 2), LARGE, LONG))

    def test_heard(self):
        self.refuses(most_heard, ((1, 2),), ((InvalidWord, tuple((0, odd) for odd in NOT_PLAIN) + (
            (), (0,) * 10, [1, 2], None, 1, "12", {}, LARGE)),))
        self.refuses(kept, (LARGE, (0,) * 5, None), (HALL, self.values_of(5), (InvalidWord, NOT_PLAIN)))
        self.refuses(kept, (WIDE, (0,) * 9, 0), (HALL, self.values_of(9), (InvalidWord, NOT_PLAIN)))

    def test_phases(self):
        for function in (phases, agreed, settling):
            self.refuses(function, (LARGE, (0,) * 5, (2,), {(4, 2, 5): 1, (1, 2, 1): None}), (
                HALL, self.values_of(5), self.LOT, self.lies_of(4)))
        self.refuses(walled, (LARGE, 2, None, (2,), {(5, 2, 5): 1, (1, 2, 1): None}), (
            HALL, (InvalidNumber, wrong_numbers(1, 5)), (InvalidWord, NOT_PLAIN), self.LOT, self.lies_of(5)))
        self.raises(InvalidLies, None, phases, LARGE, (0,) * 5, (1,), {(1, True, 2): 0})

    def test_lates(self):
        for function in (latest, late_paper):
            self.refuses(function, (LARGE, (2,)), (HALL, self.LOT))
        for value in (None, ((0, 0, 0, 0, 1), {})):
            self.refuses(is_late_paper, (LARGE, (2,), value), (HALL, self.LOT, (None, ())))

    def test_many_lies(self):
        lies = {(number, house, goal): 0 for number in range(1, 7) for house in (1, 2) for goal in WIDE.places
                if goal != house}
        self.assertEqual(agreed(WIDE, (5,) * 9, (1, 2), lies), 5)
