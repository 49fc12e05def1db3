"""Stage 6: squares."""

from itertools import combinations

from evencoins.codes.square import (
    changed_square, do_meet, hidden_count, is_row, is_square, row_of, share_of, square, square_of,
)
from evencoins.errors import InvalidCoins, InvalidLot, InvalidNumber, InvalidOperation, InvalidTable
from tests.helper import (
    LONG, ODD, WRONG_FIELDS, Case, all_rows, hiding_row, value, wrong_numbers, wrong_rows,
)

FIELD = (InvalidNumber, WRONG_FIELDS)
NUMBER = (InvalidNumber, wrong_numbers(0, 6))
PLACE = (InvalidNumber, wrong_numbers(1, 6) + (9, 10))
MOST = (InvalidNumber, wrong_numbers(0, 4))
COINS = (InvalidCoins, wrong_rows(7, 2))
F = ((3, 2), (2, 4))
SQUARE = (InvalidTable, (
    (), ((),), [[3]], ([3],), ((1, 2), [2, 4]), ((3, 2), (1, 4)), ((3, 2),), ((3,), (2,)), ((3, 2), (2,)),
    ((3,), (2, 4)), ((7,),), ((-1,),), ((True,),), ((False,),), ((None,),), ((3, True), (1, 4)), ((3, 1), (True, 4)),
    (3,), (3, 2), 3, None, True, "3", ("3",), {}, {0: (3,)}, ((0,) * 6,) * 6, ((LONG,),), ((3, 2, 1), (2, 4, 0)),
    ((0,) * 5,) * 4,
))
ROW = (InvalidTable, wrong_rows(7, 2) + ((), (1,) * 6, (1,) * 9))


def full(number, coins, most):
    """The square, number by number."""
    pairs = [(a, b) for a in range(most + 1) for b in range(a, most + 1)]
    found = dict(zip(pairs, (number,) + coins))
    return tuple(tuple(found[min(a, b), max(a, b)] for b in range(most + 1)) for a in range(most + 1))


def coins_of(table):
    """The coins of a square."""
    many = range(len(table))
    return tuple(table[a][b] for a in many for b in many if a <= b and (a, b) != (0, 0))


def at(field, table, x, y):
    """The value of a square at two numbers."""
    return sum(c * x ** a * y ** b for a, row in enumerate(table) for b, c in enumerate(row)) % field


def row_by(field, table, place):
    """The row of a place, from the numbers of the square."""
    many = range(len(table))
    return tuple(sum(table[a][b] * place ** a for a in many) % field for b in many)


def squares(field, most):
    """All squares of a degree."""
    return [full(row[0], row[1:], most) for row in all_rows(field, (most + 1) * (most + 2) // 2)]


class ExamplesTest(Case):

    def test_examples(self):
        found = square(5, 3, (2, 4), 1)
        self.assertEqual(
            [found, row_of(5, found, 1), row_of(5, found, 2), share_of(5, found, 2), do_meet(5, 1, (0, 1), 2, (2, 1))],
            [((3, 2), (2, 4)), (0, 1), (2, 0), 2, False])
        self.assertEqual(
            [square_of(5, {1: (0, 1), 2: (2, 0)}) == found, square_of(5, {1: (0, 1), 2: (2, 1)}),
             changed_square(5, (1,), (2, 4), 3, 0, 1)],
            [True, None, (0, 1)])
        self.assertEqual([row_of(5, square(5, 0, (0, 1), 1), 1), hidden_count(5, 1, 1), hidden_count(5, 2, 1)],
                         [(0, 1), 1, 25])


class SquaresTest(Case):

    def test_is_square(self):
        for row in all_rows(5, 4):
            table = (row[:2], row[2:])
            self.assertIs(is_square(5, 1, table), row[1] == row[2])
            self.is_false(is_square(5, 0, table))
            self.is_false(is_square(5, 2, table))
        for most in range(5):
            table = ((0,) * (most + 1),) * (most + 1)
            for other in range(5):
                self.assertIs(is_square(997, other, table), other == most)
        for wrong in SQUARE[1]:
            for most in range(5):
                self.is_false(is_square(7, most, wrong))
        for most in range(5):
            self.judges(is_square, (7, most), [odd for odd in ODD if odd != ((1,),)])
        self.is_false(is_square(5, 2, ((1, 2, 3), (2, 0, 4), (3, 0, 0))))

    def test_is_row(self):
        for most in range(5):
            for many in range(7):
                self.assertIs(is_row(5, most, (1,) * many), many == most + 1)
            for wrong in wrong_rows(7, most + 1):
                self.is_false(is_row(7, most, wrong))
            self.judges(is_row, (7, most))
        self.is_true(is_row(5, 1, (0, 0)))

    def test_square(self):
        for most in (0, 1):
            for row in all_rows(5, (most + 1) * (most + 2) // 2):
                self.assertEqual(square(5, row[0], row[1:], most), full(row[0], row[1:], most))
        coins = (2, 3, 4, 5, 6, 7, 8, 9, 10, 11, 12, 13, 14, 15)
        self.assertEqual(square(997, 1, coins, 4), (
            (1, 2, 3, 4, 5), (2, 6, 7, 8, 9), (3, 7, 10, 11, 12), (4, 8, 11, 13, 14), (5, 9, 12, 14, 15)))
        self.assertEqual(square(7, 6, (0, 1, 2, 3, 4), 2), ((6, 0, 1), (0, 2, 3), (1, 3, 4)))
        self.assertEqual(square(7, 6, (0, 1, 2, 3, 4, 5, 6, 0, 1), 3),
                         ((6, 0, 1, 2), (0, 3, 4, 5), (1, 4, 6, 0), (2, 5, 0, 1)))
        self.assertEqual(square(5, 4, (), 0), ((4,),))

    def test_rows(self):
        for field, most in ((5, 0), (5, 1), (7, 2), (11, 3), (997, 4)):
            coins = tuple((k * k + 3 * k + 2) % field for k in range(most * (most + 3) // 2))
            table = square(field, 3, coins, most)
            for place in range(1, min(9, field - 1) + 1):
                row = row_of(field, table, place)
                self.assertEqual(row, row_by(field, table, place))
                self.assertEqual(share_of(field, table, place), at(field, table, place, 0))
                for other in range(min(field, 12)):
                    self.assertEqual(value(field, row, other), at(field, table, place, other))
        self.assertEqual(row_of(5, ((2, 0), (0, 0)), 3), (2, 0))
        for table in squares(5, 1):
            for place in range(1, 5):
                self.assertEqual(row_of(5, table, place), row_by(5, table, place))
                self.assertEqual(share_of(5, table, place), row_by(5, table, place)[0])

    def test_meeting(self):
        for row in all_rows(5, 2)[::2]:
            for row2 in all_rows(5, 2)[::3]:
                for place in range(1, 5):
                    for other in range(1, 5):
                        self.assertIs(do_meet(5, place, row, other, row2),
                                      value(5, row, other) == value(5, row2, place))
        self.is_true(do_meet(997, 9, (5,), 1, (5,)))
        self.is_false(do_meet(997, 9, (0, 0, 0, 0, 1), 1, (0, 0, 0, 0, 1)))
        self.is_true(do_meet(997, 9, (81, 0, 0, 0, 0), 1, (0, 0, 1, 0, 0)))


class RowsThatMeetTest(Case):

    def test_the_only_square(self):
        found = {}
        for table in squares(5, 1):
            for places in ((1, 2), (4, 2)):
                rows = {place: row_by(5, table, place) for place in places}
                found.setdefault(tuple(sorted(rows.items())), []).append(table)
        for places in ((1, 2), (2, 4)):
            for numbers in all_rows(5, 4):
                rows = {places[0]: numbers[:2], places[1]: numbers[2:]}
                right = found.get(tuple(sorted(rows.items())), [])
                self.assertLess(len(right), 2)
                self.assertEqual(square_of(5, rows), right[0] if right else None)

    def test_further_rows(self):
        for field, most in ((5, 0), (5, 1), (7, 2), (11, 3), (997, 4), (5, 3)):
            coins = tuple((k * k + 3 * k + 2) % field for k in range(most * (most + 3) // 2))
            table = full(4, coins, most)
            every = range(min(9, field - 1), 0, -1)
            for many in range(most + 1, len(every) + 1):
                for places in list(combinations(every, many))[:5]:
                    rows = {place: row_by(field, table, place) for place in places}
                    self.assertEqual(square_of(field, rows), table)
                    wrong = dict(rows)
                    last = wrong[places[-1]]
                    wrong[places[-1]] = last[:-1] + ((last[-1] + 1) % field,)
                    self.assertEqual(square_of(field, wrong), None if most or many > 1 else ((0,),))

    def test_zeros_at_the_end(self):
        self.assertEqual(square_of(5, {1: (0, 0), 2: (0, 0)}), ((0, 0), (0, 0)))
        self.assertEqual(square_of(5, {3: (2, 0), 1: (2, 0)}), ((2, 0), (0, 0)))
        self.assertEqual(square_of(7, {3: (6,)}), ((6,),))
        self.assertEqual(square_of(7, {3: (6,), 1: (6,)}), ((6,),))
        self.assertIsNone(square_of(7, {3: (6,), 1: (5,)}))

    def test_rows_are_not_changed(self):
        rows = {4: (2, 1), 1: (0, 1)}
        square_of(5, rows)
        self.assertEqual(list(rows.items()), [(4, (2, 1)), (1, (0, 1))])

    def test_too_few_have_several(self):
        rows = [row_by(5, table, 1) for table in squares(5, 1)]
        self.assertEqual(rows.count((0, 1)), 5)


class ExchangeTest(Case):

    def test_exchange(self):
        for field, most in ((5, 0), (5, 1), (5, 2), (7, 2), (11, 3), (11, 4)):
            coins = tuple((3 * k + 1) % field for k in range(most * (most + 3) // 2))
            places = range(1, min(9, field - 1) + 1)
            for many in range(most + 1):
                for lot in list(combinations(places, many))[:12]:
                    for number, other in ((0, 0), (0, 1), (4, 2), (3, 4)):
                        self.is_exchange(field, most, lot, coins, number, other)

    def is_exchange(self, field, most, lot, coins, number, other):
        found = changed_square(field, lot, coins, number, other, most)
        row = hiding_row(field, lot, most + 1)
        one, two = full(number, coins, most), full(other, found, most)
        for a in range(most + 1):
            for b in range(most + 1):
                self.assertEqual(two[a][b], (one[a][b] + (other - number) * row[a] * row[b]) % field)
        for place in lot:
            self.assertEqual(row_by(field, one, place), row_by(field, two, place))
        for place in range(1, min(9, field - 1) + 1):
            moved = (other - number) * value(field, row, place)
            self.assertEqual(share_of(field, two, place), (share_of(field, one, place) + moved) % field)
        self.assertEqual(changed_square(field, lot, found, other, number, most), coins)

    def test_exchange_of_all(self):
        for lot in ((), (1,), (3,)):
            for coins in all_rows(5, 2):
                self.is_exchange(5, 1, lot, coins, 3, 1)
        self.assertEqual(changed_square(5, (), (), 3, 1, 0), ())
        self.assertEqual(changed_square(5, (), (1, 2), 3, 1, 1), (1, 2))

    def test_counts(self):
        for most, lots in ((0, ((),)), (1, ((), (1,), (4,))), (2, ((), (2,), (1, 3)))):
            for number in (0, 2):
                tables = [table for table in squares(5, most) if table[0][0] == number]
                for lot in lots:
                    seen = {}
                    for table in tables:
                        rows = tuple(row_by(5, table, place) for place in lot)
                        seen[rows] = seen.get(rows, 0) + 1
                    self.assertEqual(set(seen.values()), {hidden_count(5, most, len(lot))})

    def test_counts_by_the_sentence(self):
        for field in (5, 997):
            for most in range(5):
                for many in range(most + 1):
                    power = (most - many + 1) * (most - many + 2) // 2 - 1
                    self.assertEqual(hidden_count(field, most, many), field ** power)

    def test_shares_do_not_tell_the_square(self):
        tables = [((1, 2), (2, 0)), ((1, 2), (2, 4))]
        self.assertEqual(*[[share_of(5, table, place) for place in range(1, 5)] for table in tables])


class RefusalsTest(Case):

    def test_judges_want_a_field_and_a_degree(self):
        for odd in ODD + (((1, 2), (2, 3)), (1, 2)):
            for function in (is_square, is_row):
                for field in WRONG_FIELDS:
                    self.raises(InvalidNumber, field, function, field, 1, odd)
                    self.raises(InvalidNumber, field, function, field, 5, odd)
                for most in MOST[1]:
                    self.raises(InvalidNumber, most, function, 5, most, odd)

    def test_square(self):
        self.refuses(square, (7, 3, (1, 2), 1), (FIELD, NUMBER, COINS, MOST), [
            (InvalidCoins, None, (7, 3, (1,) * many, most))
            for most in range(5) for many in range(20) if many != most * (most + 3) // 2])
        for most in range(5):
            square(7, 3, (1,) * (most * (most + 3) // 2), most)

    def test_rows(self):
        for function in (row_of, share_of):
            self.refuses(function, (7, F, 3), (FIELD, SQUARE, PLACE))
            for field, most in ((5, 4), (7, 6), (11, 9), (997, 9)):
                function(field, F, most)
                self.raises(InvalidNumber, most + 1, function, field, F, most + 1)
                self.raises(InvalidNumber, 0, function, field, F, 0)
            for most in range(5):
                function(5, ((0,) * (most + 1),) * (most + 1), 1)

    def test_meeting(self):
        self.refuses(do_meet, (7, 1, (1, 2), 3, (3, 4)), (
            FIELD, PLACE, ROW, PLACE, (InvalidTable, ROW[1] + ((1,), (1, 2, 3)))))
        for many in range(1, 6):
            for other in range(7):
                if many == other:
                    do_meet(11, 9, (1,) * many, 9, (1,) * other)
                else:
                    self.raises(InvalidTable, None, do_meet, 11, 9, (1,) * many, 9, (1,) * other)
        for places in ((10, 9), (9, 10)):
            self.raises(InvalidNumber, 10, do_meet, 11, places[0], (1,), places[1], (1,))

    def test_square_of(self):
        row, row2 = (0, 1), (2, 0)
        wrong = (
            {}, [], (), None, True, 1, "12", ((1, row), (2, row2)), [(1, row)], {0: row, 1: row2}, {7: row, 1: row2},
            {True: row, 2: row2}, {"1": row, 2: row2}, {None: row, 2: row2}, {(1,): row}, {-1: row, 2: row2},
            {1: [0, 1], 2: row2}, {1: row, 2: (2,)}, {1: row, 2: (2, 0, 0)}, {1: (), 2: ()}, {1: row, 2: (2, 7)},
            {1: row, 2: (2, True)}, {1: (0, True), 2: row2}, {1: row, 2: (2, None)}, {1: row, 2: None},
            {1: (0,) * 6, 2: (0,) * 6}, {1: row, 2: {0: 2, 1: 0}}, {1: row, 2: row2, LONG: row}, {1: row, 2: "20"},
            {9: row, 1: row2}, {1: row, 2: 2}, {1: row, 2: (2, -1)},
        )
        self.refuses(square_of, (7, {1: row, 2: (0, 4)}), (FIELD, (InvalidTable, wrong)), [
            (InvalidOperation, None, (7, {1: row})),
            (InvalidOperation, None, (7, {1: row * 2, 2: row * 2, 3: row * 2})),
            (InvalidOperation, None, (7, {5: (1, 2, 3), 6: (3, 3, 3)})),
            (InvalidOperation, None, (7, {k: (0,) * 5 for k in range(1, 5)}))])
        self.raises(InvalidTable, None, square_of, 997, {10: row, 1: row2})
        self.raises(InvalidTable, None, square_of, 5, {5: row, 1: row2})
        self.assertEqual(square_of(7, {k: (0,) * 5 for k in range(1, 6)}), ((0,) * 5,) * 5)

    def test_changed_square(self):
        lot = (InvalidLot, (
            [1], (0,), (7,), (1, 7), (0, 1), (True,), (False, 1), (None,), ("1",), (2, 1), (1, 1), None, True, 1, "",
            "1", {}, {1: 2}, [], (LONG,), (-1,), (9,), ((1,),)))
        then = [(InvalidCoins, None, (7, lot, (1,) * many, 3, 4, most))
                for most, many, lot in ((1, 0, ()), (1, 3, (1,)), (2, 2, (1,)), (0, 2, ()), (4, 13, ()),
                                        (1, 5, (1, 2, 3)))]
        then += [(InvalidLot, None, (7, lot, (1,) * many, 3, 4, most))
                 for most, many, lot in ((0, 0, (1,)), (1, 2, (1, 2)), (2, 5, (1, 2, 3)), (4, 14, (1, 2, 3, 4, 5)))]
        self.refuses(changed_square, (7, (1,), (1, 2), 3, 4, 1), (FIELD, lot, COINS, NUMBER, NUMBER, MOST), then)
        changed_square(11, (1, 4, 5, 9), (1,) * 14, 3, 4, 4)
        self.raises(InvalidLot, None, changed_square, 11, (1, 4, 5, 10), (1,) * 14, 3, 4, 4)
        self.raises(InvalidLot, None, changed_square, 997, (10,), (1, 2), 3, 4, 1)

    def test_hidden_count(self):
        self.refuses(hidden_count, (7, 4, 4), (FIELD, MOST, (InvalidNumber, wrong_numbers(0, 4))))
        for most in range(5):
            self.raises(InvalidNumber, most + 1, hidden_count, 5, most, most + 1)
            self.raises(InvalidNumber, -1, hidden_count, 5, most, -1)
