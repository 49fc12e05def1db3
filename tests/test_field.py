"""Stage 1: the field."""

from evencoins.base.field import (
    is_field, is_number, minus, moved, plus, power, power_sum, times, undone, vectors_count, vectors_with, weighted,
)
from evencoins.errors import InvalidNumber, InvalidOperation, InvalidTable, Refused, TooMany
from tests.helper import LONG, ODD, WRONG_FIELDS, Case, all_rows, dot, wrong_numbers, wrong_rows

PRIMES = [p for p in range(2, 1100) if all(p % q for q in range(2, p))]
FIELDS = (5, 7, 11, 13, 31, 101, 991, 997)
FIELD = (InvalidNumber, WRONG_FIELDS)
NUMBER = (InvalidNumber, wrong_numbers(0, 6))
POWER = (InvalidNumber, wrong_numbers(0, 10 ** 6))
VECTOR = (InvalidTable, wrong_rows(7, 2) + ((1,) * 61, (0,) * 61, (1,) * 70))


class ExamplesTest(Case):

    def test_examples(self):
        self.assertEqual(
            [is_field(997), is_field(3), is_number(7, 7), plus(7, 5, 4), minus(7, 2, 5), times(7, 3, 5)],
            [True, False, False, 2, 4, 1])
        self.assertEqual(
            [undone(7, 3), power(7, 3, 5), power(7, 0, 0), power_sum(7, 6), power_sum(7, 4), power_sum(7, 0)],
            [5, 5, 1, 6, 0, 0])
        self.assertEqual(
            [weighted(5, (1, 2), (3, 4)), vectors_count(5, (1, 2), 1), vectors_count(5, (0, 0), 1),
             vectors_with(5, (0, 1), 2)[:2]],
            [1, 5, 0, ((0, 2), (1, 2))])
        self.assertEqual([moved(5, (0, 2), (3, 4), 0), moved(5, (0, 0), (3, 4), 0)], [(3, 0), None])
        self.raises(Refused, ("zero",), undone, 7, 0)


class NumbersTest(Case):

    def test_fields(self):
        for number in range(-10, 1100):
            self.assertIs(is_field(number), number in PRIMES and 5 <= number <= 997, number)
        self.judges(is_field, ())
        for value in WRONG_FIELDS:
            self.is_false(is_field(value))

    def test_numbers(self):
        for p in FIELDS:
            for number in range(-3, p + 3):
                self.assertIs(is_number(p, number), 0 <= number < p)
            self.judges(is_number, (p,))
            for value in wrong_numbers(0, p - 1):
                self.is_false(is_number(p, value))

    def test_sums_and_products(self):
        for p in (5, 7, 13):
            for one in range(p):
                for other in range(p):
                    self.assertEqual(plus(p, one, other), (one + other) % p)
                    self.assertEqual(minus(p, one, other), (one - other) % p)
                    self.assertEqual(times(p, one, other), one * other % p)
        for one in (0, 1, 2, 500, 996):
            for other in (0, 1, 3, 499, 996):
                self.assertEqual(plus(997, one, other), (one + other) % 997)
                self.assertEqual(minus(997, one, other), (one - other) % 997)
                self.assertEqual(times(997, one, other), one * other % 997)

    def test_put_together(self):
        for a, b, c in all_rows(5, 3):
            self.assertEqual(plus(5, a, plus(5, b, c)), plus(5, plus(5, a, b), c))
            self.assertEqual(times(5, a, times(5, b, c)), times(5, times(5, a, b), c))
            self.assertEqual(times(5, a, plus(5, b, c)), plus(5, times(5, a, b), times(5, a, c)))

    def test_undoing(self):
        for p in FIELDS:
            for a in range(1, p):
                self.assertEqual(undone(p, a) * a % p, 1)
                self.is_true(is_number(p, undone(p, a)))
        for p in (5, 7, 31):
            for a in range(1, p):
                self.assertEqual(sorted(times(p, a, b) for b in range(p)), list(range(p)))

    def test_powers(self):
        for p in (5, 7, 31):
            for a in range(p):
                for many in range(0, 2 * p + 3):
                    self.assertEqual(power(p, a, many), a ** many % p)
        for p in FIELDS:
            for a in (0, 1, 2, p - 2, p - 1):
                self.assertEqual(power(p, a, 0), 1)
                self.assertEqual(power(p, a, 1), a)
                self.assertEqual(power(p, a, p - 1), 1 if a else 0)
                self.assertEqual(power(p, a, 10 ** 6), pow(a, 10 ** 6, p))
                self.assertEqual(power(p, a, 999999), pow(a, 999999, p))
                self.assertEqual(power(p, a, 524287), pow(a, 524287, p))

    def test_is_or_is_not(self):
        for p in (5, 7):
            for a in range(p):
                for b in range(p):
                    self.assertEqual(minus(p, 1, power(p, minus(p, a, b), p - 1)), 1 if a == b else 0)

    def test_power_sums(self):
        for p in (5, 7, 13):
            for many in range(4 * p):
                self.assertEqual(power_sum(p, many), sum(x ** many for x in range(p)) % p)
        for p in FIELDS:
            for many in (0, 1, p - 2, p - 1, p, 2 * p - 2, 2 * p - 1, 10 ** 6, 10 ** 6 - 1):
                self.assertEqual(power_sum(p, many), sum(pow(x, many, p) for x in range(p)) % p)

    def test_no_unlike_squares(self):
        self.assertEqual(times(7, 3, 3), times(7, 4, 4))


class VectorsTest(Case):

    def test_weighted(self):
        for weights in all_rows(5, 2):
            for vector in all_rows(5, 2):
                self.assertEqual(weighted(5, weights, vector), dot(5, weights, vector))
        self.assertEqual(weighted(5, (), ()), 0)
        self.assertEqual(weighted(997, (996,) * 60, (996,) * 60), 60)
        self.assertEqual(weighted(997, tuple(range(60)), tuple(range(60))), sum(x * x for x in range(60)) % 997)

    def test_even_sums(self):
        for p, many in ((5, 0), (5, 1), (5, 2), (5, 3), (7, 2)):
            rows = all_rows(p, many)
            for weights in rows:
                found = {goal: tuple(row for row in rows if dot(p, weights, row) == goal) for goal in range(p)}
                for goal in range(p):
                    self.assertEqual(vectors_with(p, weights, goal), found[goal])
                    self.assertEqual(vectors_count(p, weights, goal), len(found[goal]))
                    if any(weights):
                        self.assertEqual(vectors_count(p, weights, goal), p ** (many - 1))

    def test_counts_of_long_vectors(self):
        self.assertEqual(vectors_count(997, (0,) * 59 + (1,), 5), 997 ** 59)
        self.assertEqual(vectors_count(997, (3,) + (0,) * 59, 0), 997 ** 59)
        self.assertEqual(vectors_count(997, (0,) * 60, 0), 997 ** 60)
        self.assertEqual(vectors_count(997, (0,) * 60, 996), 0)
        self.assertEqual([vectors_count(5, (), 0), vectors_count(5, (), 1)], [1, 0])
        self.assertEqual([vectors_with(5, (), 0), vectors_with(5, (), 4)], [((),), ()])

    def test_as_going_through_all_vectors(self):
        for many in range(4):
            rows = all_rows(5, many)
            for weights in rows:
                for goal in range(5):
                    right = tuple(row for row in rows if dot(5, weights, row) == goal)
                    self.assertEqual(vectors_with(5, weights, goal), right)
        self.assertEqual([vectors_with(5, (), goal) for goal in (0, 1)], [((),), ()])

    def test_seven_weights(self):
        rows = all_rows(5, 7)
        self.assertEqual(vectors_with(5, (0,) * 7, 0), tuple(rows))
        self.assertEqual(vectors_with(5, (0,) * 7, 1), ())
        for place in (0, 3, 6):
            for weight, goal in ((1, 0), (3, 4)):
                weights = (0,) * place + (weight,) + (0,) * (6 - place)
                number = goal * pow(weight, -1, 5) % 5
                self.assertEqual(vectors_with(5, weights, goal), tuple(row for row in rows if row[place] == number))
        for weights, goal in (((1, 2, 3, 4, 1, 2, 3), 2), ((0, 4, 0, 0, 2, 0, 0), 1), ((4, 0, 0, 0, 0, 0, 1), 0)):
            self.assertEqual(vectors_with(5, weights, goal), tuple(row for row in rows if dot(5, weights, row) == goal))

    def test_no_vectors_are_made_in_vain(self):
        # Going through all vectors each time would take a quarter of an hour.
        for _ in range(20000):
            self.assertEqual(vectors_with(5, (0,) * 7, 1), ())

    def test_most_listed(self):
        self.assertEqual(vectors_with(313, (0, 2), 6), tuple((x, 3) for x in range(313)))
        self.assertEqual(vectors_with(313, (0, 0), 6), ())
        self.assertEqual(len(vectors_with(313, (0, 0), 0)), 313 ** 2)
        self.assertEqual(len(vectors_with(5, (1, 2, 3, 4, 1, 0, 2), 3)), 5 ** 6)
        self.assertEqual(vectors_with(997, (2,), 5), ((501,),))
        for p, weights, goal in ((317, (0, 2), 6), (317, (0, 0), 6), (5, (1,) * 8, 0), (5, (0,) * 8, 1), (7, (0,) * 6, 1),
                                 (5, (0, 0, 0, 2, 0, 0, 0, 0), 3), (997, (0,) * 60, 1)):
            self.raises(TooMany, 100000, vectors_with, p, weights, goal)

    def test_moved(self):
        for p, many in ((5, 1), (5, 2), (7, 2), (5, 3)):
            rows = all_rows(p, many)
            for weights in rows[::1 if many < 3 else 7]:
                heavy = [k for k, weight in enumerate(weights) if weight]
                for vector in rows[::1 if many < 3 else 3]:
                    for goal in range(p):
                        self.is_moved(p, weights, vector, goal, heavy)
        self.assertEqual([moved(5, (), (), 0), moved(5, (0,), (2,), 0), moved(5, (0,), (2,), 1)], [None] * 3)

    def is_moved(self, p, weights, vector, goal, heavy):
        found = moved(p, weights, vector, goal)
        if not heavy:
            self.assertIsNone(found)
            return
        self.assertEqual(dot(p, weights, found), goal)
        self.is_true(is_number(p, found[heavy[0]]))
        self.assertEqual(found[:heavy[0]], vector[:heavy[0]])
        self.assertEqual(found[heavy[0] + 1:], vector[heavy[0] + 1:])
        self.assertEqual(moved(p, weights, found, dot(p, weights, vector)), vector)

    def test_moved_one_to_one(self):
        for weights in ((2, 1), (0, 3), (1, 0)):
            for one in range(5):
                for other in range(5):
                    found = [moved(5, weights, vector, other) for vector in vectors_with(5, weights, one)]
                    self.assertEqual(tuple(sorted(found)), vectors_with(5, weights, other))

    def test_moved_long(self):
        vector = tuple(range(60))
        self.assertEqual(moved(997, (0,) * 59 + (2,), vector, 10), vector[:59] + (5,))
        self.assertEqual(moved(997, (1,) + (0,) * 59, vector, 996), (996,) + vector[1:])

    def test_pairs_are_not_even(self):
        pairs = [(weighted(5, (1, 1), row), weighted(5, (2, 2), row)) for row in all_rows(5, 2)]
        self.assertEqual(len(set(pairs)), 5)


class RefusalsTest(Case):

    def test_pairs(self):
        for function in (plus, minus, times):
            self.refuses(function, (7, 3, 4), (FIELD, NUMBER, NUMBER))
            for numbers in ((5, 1), (1, 5), (5, 5)):
                self.raises(InvalidNumber, 5, function, 5, *numbers)
            function(997, 996, 996)

    def test_number_wants_a_field(self):
        for field in WRONG_FIELDS:
            for value in ODD:
                self.raises(InvalidNumber, field, is_number, field, value)

    def test_undone(self):
        self.refuses(undone, (7, 3), (FIELD, NUMBER))
        for field in WRONG_FIELDS:
            self.raises(InvalidNumber, field, undone, field, 0)
        for p in FIELDS:
            self.raises(Refused, ("zero",), undone, p, 0)
            self.raises(InvalidNumber, p, undone, p, p)

    def test_powers(self):
        self.refuses(power, (7, 3, 10 ** 6), (FIELD, NUMBER, POWER))
        self.refuses(power_sum, (7, 10 ** 6), (FIELD, POWER))
        self.raises(InvalidNumber, 10 ** 6 + 1, power, 7, 0, 10 ** 6 + 1)
        self.raises(InvalidNumber, LONG, power_sum, 5, LONG)

    def test_vectors(self):
        long = (1,) * 6
        self.refuses(
            weighted, (7, (1, 2), (3, 4)), (FIELD, VECTOR, VECTOR),
            [(InvalidOperation, None, (7, (1, 2), (1,))), (InvalidOperation, None, (7, (), (1,))),
             (InvalidOperation, None, (7, (1,) * 60, (1,) * 59))])
        self.refuses(vectors_count, (7, (1, 2), 3), (FIELD, VECTOR, NUMBER))
        self.refuses(vectors_with, (7, (1, 2), 3), (FIELD, VECTOR, NUMBER), [(TooMany, 100000, (7, long, 1))])
        self.refuses(
            moved, (7, (1, 2), (3, 4), 5), (FIELD, VECTOR, VECTOR, NUMBER),
            [(InvalidOperation, None, (7, (1, 2), (1,), 1)), (InvalidOperation, None, (7, (0, 0), (1,), 1)),
             (InvalidOperation, None, (7, (), (1,), 1))])

    def test_sixty_and_sixty_one(self):
        for vector in ((0,) * 61, (1,) * 61):
            self.raises(InvalidTable, None, weighted, 5, vector, vector)
            self.raises(InvalidTable, None, weighted, 5, vector[1:], vector)
            self.raises(InvalidTable, None, vectors_count, 5, vector, 1)
            self.raises(InvalidTable, None, vectors_with, 5, vector, 1)
            self.raises(InvalidTable, None, moved, 5, vector, vector, 1)
            self.raises(InvalidTable, None, moved, 5, vector[1:], vector, 1)
