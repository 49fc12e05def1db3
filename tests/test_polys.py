"""Stage 2: polys."""

from evencoins.base.polys import (
    checks, hidden, hiding, is_poly, poly_divided, poly_product, poly_scaled, poly_sum, through, value_at, values_at,
    weights,
)
from evencoins.errors import InvalidNumber, InvalidOperation, InvalidPoly, Refused, TooMany
from tests.helper import (
    ODD, WRONG_FIELDS, Case, all_polys, all_rows, dot, hiding_row, trim, value, wrong_numbers, wrong_rows,
)

FIELD = (InvalidNumber, WRONG_FIELDS)
NUMBER = (InvalidNumber, wrong_numbers(0, 6))
POLY = (InvalidPoly, wrong_rows(7, 2) + ((0,), (1, 0), (0, 0, 0), (1,) * 62, (0,) * 61))
WRONG_PLACES = wrong_rows(7, 2) + ((1, 1), (0, 3, 0), (2, 1, 2), tuple(range(7)) + (0,), (1,) * 61)
PLACES = (InvalidOperation, WRONG_PLACES + ((),))
HIDDEN_PLACES = (InvalidOperation, WRONG_PLACES + ((0,), (1, 0), (0, 2)))
POINTS = (InvalidOperation, (
    (), [(1, 2)], ([1, 2],), ((1, 2), [3, 4]), ((1,),), ((1, 2, 3),), ((),), (1, 2), ((7, 1),), ((1, 7),), ((-1, 1),),
    ((1, -1),), ((True, 1),), ((1, True),), ((1, False),), ((None, 1),), ((1, None),), ((1, 0), (1, 0)),
    ((1, 0), (2, 3), (1, 4)), ("12",), "12", None, True, 1, {}, {1: 2}, ({1: 2, 3: 4},), (((1,), 2),), ((1, 10 ** 60),),
))
DEGREE = (InvalidNumber, wrong_numbers(-1, 60) + (-2, 61))
P = (3, 1, 2)


class ExamplesTest(Case):

    def test_examples(self):
        self.assertEqual(
            [values_at(7, P, (0, 1, 2)), through(7, ((0, 3), (1, 6), (2, 6))), poly_divided(7, P, (6, 1)),
             poly_product(7, P, (0, 1))],
            [(3, 6, 6), (3, 1, 2), ((3, 2), (6,)), (0, 3, 1, 2)])
        self.assertEqual(
            [weights(7, (1, 2, 3), 0), hiding(7, (1, 3)), hidden(7, P, (1, 3), 0), checks(7, (1, 2, 3, 4), 1)],
            [(3, 4, 1), (1, 1, 5), (0, 5, 1), ((1, 4, 3, 6), (1, 1, 2, 3))])
        self.raises(InvalidOperation, None, through, 7, ((1, 0), (1, 0)))


class PolysTest(Case):

    def test_is_poly(self):
        for row in all_rows(5, 3):
            self.assertIs(is_poly(5, row), row[-1] != 0)
        self.is_true(is_poly(5, ()))
        self.is_true(is_poly(997, (0,) * 60 + (996,)))
        self.is_false(is_poly(997, (0,) * 61 + (996,)))
        for wrong in POLY[1]:
            self.is_false(is_poly(7, wrong))
        self.judges(is_poly, (7,), [odd for odd in ODD if odd != (1,) * 70])
        self.is_false(is_poly(7, (1,) * 70))

    def test_sums(self):
        polys = all_polys(5, 2)
        for one in polys:
            for other in polys[::3]:
                rows = [tuple(poly) + (0,) * (3 - len(poly)) for poly in (one, other)]
                self.assertEqual(poly_sum(5, one, other), trim([(x + y) % 5 for x, y in zip(*rows)]))
        self.assertEqual(poly_sum(7, (1,) * 61, (6,) * 61), ())
        self.assertEqual(poly_sum(7, (1,) * 61, (0, 6)), (1, 0) + (1,) * 59)
        self.assertEqual([poly_sum(7, (), P), poly_sum(7, P, ()), poly_sum(7, (), ())], [P, P, ()])

    def test_multiples(self):
        for poly in all_polys(5, 2):
            for number in range(5):
                self.assertEqual(poly_scaled(5, poly, number), trim([x * number % 5 for x in poly]))
        self.assertEqual([poly_scaled(7, (1,) * 61, 0), poly_scaled(7, (), 3)], [(), ()])

    def test_products(self):
        polys = all_polys(5, 2)
        for one in polys:
            for other in polys[::3]:
                numbers = [0] * 6
                for k, x in enumerate(one):
                    for m, y in enumerate(other):
                        numbers[k + m] += x * y
                self.assertEqual(poly_product(5, one, other), trim([x % 5 for x in numbers]))

    def test_greatest_products(self):
        top = (0,) * 30 + (2,)
        self.assertEqual(poly_product(7, top, top), (0,) * 60 + (4,))
        self.raises(TooMany, 60, poly_product, 7, top, (0,) + top)
        self.raises(TooMany, 60, poly_product, 7, (1,) * 61, (1, 1))
        self.raises(TooMany, 60, poly_product, 7, (1, 1), (1,) * 61)
        self.raises(TooMany, 60, poly_product, 7, (1,) * 61, (1,) * 61)
        self.assertEqual(poly_product(7, (1,) * 61, (3,)), (3,) * 61)
        self.assertEqual([poly_product(7, (1,) * 61, ()), poly_product(7, (), (1,) * 61)], [(), ()])

    def test_divided(self):
        polys = all_polys(5, 3)
        for one in polys[::7]:
            for other in all_polys(5, 2)[1:]:
                quotient, rest = poly_divided(5, one, other)
                self.is_true(is_poly(5, quotient))
                self.is_true(is_poly(5, rest))
                self.assertLess(len(rest), len(other))
                self.assertEqual(poly_sum(5, poly_product(5, quotient, other), rest), one)
        self.assertEqual(type(poly_divided(5, P, (1, 1))), tuple)

    def test_divided_edges(self):
        self.assertEqual(poly_divided(7, (), (2,)), ((), ()))
        self.assertEqual(poly_divided(7, (1,), (2, 1)), ((), (1,)))
        self.assertEqual(poly_divided(7, (2, 4), (2,)), ((1, 2), ()))
        self.assertEqual(poly_divided(7, (0,) * 60 + (3,), (0,) * 60 + (5,)), ((2,), ()))
        self.assertEqual(poly_divided(7, (1,) * 61, (6, 1)), (tuple(k % 7 for k in range(60, 0, -1)), (5,)))
        for one in ((), (1,), P):
            self.raises(Refused, ("zero",), poly_divided, 7, one, ())

    def test_values(self):
        for poly in all_polys(7, 2):
            self.assertEqual(tuple(value_at(7, poly, place) for place in range(7)),
                             tuple(value(7, poly, place) for place in range(7)))
            self.assertEqual(values_at(7, poly, (3, 0, 6)), tuple(value(7, poly, place) for place in (3, 0, 6)))
        self.assertEqual(value_at(997, (1,) * 61, 996), 1)
        self.assertEqual(value_at(997, (1,) * 61, 1), 61)
        self.assertEqual([value_at(5, (), 3), values_at(5, (), (1, 2))], [0, (0, 0)])
        self.assertEqual(values_at(61, (0, 1), tuple(range(60))), tuple(range(60)))

    def test_few_zeros(self):
        for poly in all_polys(7, 2)[1:]:
            zeros = [place for place in range(7) if value_at(7, poly, place) == 0]
            self.assertLess(len(zeros), len(poly))
            for place in zeros:
                self.assertEqual(poly_divided(7, poly, (-place % 7, 1))[1], ())

    def test_unlike_polys_can_be_alike(self):
        self.assertEqual(values_at(5, (0, 1), (0, 1, 2, 3, 4)), values_at(5, (0, 0, 0, 0, 0, 1), (0, 1, 2, 3, 4)))


class PlacesTest(Case):

    def test_through(self):
        for places in ((0,), (3,), (1, 2), (4, 0), (0, 1, 2), (3, 1, 4)):
            found = {}
            for numbers in all_rows(5, len(places)):
                poly = through(5, tuple(zip(places, numbers)))
                self.is_true(is_poly(5, poly))
                self.assertLessEqual(len(poly), len(places))
                self.assertEqual(tuple(value(5, poly, place) for place in places), numbers)
                found[poly] = True
            self.assertEqual(sorted(found), all_polys(5, len(places) - 1))

    def test_through_many(self):
        poly = tuple(k * k % 61 for k in range(1, 61))
        points = tuple((place, value(61, poly, place)) for place in range(60, 0, -1))
        self.assertEqual(through(61, points), poly)
        self.assertEqual(through(997, tuple((place, 5) for place in range(60))), (5,))
        self.assertEqual(through(5, tuple((place, 0) for place in range(5))), ())
        self.raises(InvalidOperation, None, through, 67, tuple((place, 5) for place in range(61)))

    def test_weights(self):
        for places in ((0,), (2,), (1, 2), (4, 0), (1, 2, 3), (4, 0, 2)):
            for goal in range(5):
                found = weights(5, places, goal)
                right = [row for row in all_rows(5, len(places)) if all(
                    dot(5, row, [place ** k for place in places]) == goal ** k % 5 for k in range(len(places)))]
                self.assertEqual(right, [found])
                for poly in all_polys(5, len(places) - 1):
                    self.assertEqual(dot(5, found, [value(5, poly, place) for place in places]), value(5, poly, goal))

    def test_weights_of_sixty(self):
        places = tuple(range(1, 61))
        found = weights(997, places, 0)
        for degree in (0, 1, 30, 59):
            self.assertEqual(dot(997, found, [pow(place, degree, 997) for place in places]), 1 if degree == 0 else 0)
        self.assertEqual(weights(997, places, 7), (0,) * 6 + (1,) + (0,) * 53)

    def test_checks(self):
        for p, places in ((5, (1, 2, 3)), (5, (4, 0, 2)), (7, (1, 2, 3, 4)), (7, (6, 0, 3, 5)), (5, (2,))):
            units = []
            for a in places:
                product = 1
                for b in places:
                    product = product * (a - b if a != b else 1) % p
                units.append(pow(product, -1, p))
            for degree in range(-1, 7):
                rows = [tuple(u * a ** m % p for u, a in zip(units, places)) for m in range(len(places) - degree - 1)]
                self.assertEqual(checks(p, places, degree), tuple(rows))

    def test_checked_values(self):
        for places in ((1, 2, 3), (0, 4, 2)):
            for degree in range(-1, 3):
                right = set(tuple(value(5, poly, place) for place in places) for poly in all_polys(5, degree))
                rows = checks(5, places, degree)
                for numbers in all_rows(5, 3):
                    self.assertEqual(all(dot(5, row, numbers) == 0 for row in rows), numbers in right)

    def test_number_at_the_highest_power(self):
        row = checks(5, (1, 3, 4), 1)[0]
        for numbers in all_rows(5, 3):
            poly = through(5, tuple(zip((1, 3, 4), numbers)))
            self.assertEqual(dot(5, row, numbers), poly[2] if len(poly) == 3 else 0)

    def test_checks_edges(self):
        places = tuple(range(60))
        self.assertEqual(len(checks(61, places, -1)), 60)
        self.assertEqual(len(checks(61, places, 58)), 1)
        self.assertEqual([checks(61, places, 59), checks(61, places, 60), checks(5, (1,), 0), checks(5, (0,), -1)],
                         [(), (), (), ((1,),)])

    def test_hiding(self):
        for p, places in ((5, ()), (5, (3,)), (5, (4, 1)), (7, (1, 3)), (7, (6, 2, 5)), (5, (1, 2, 3, 4))):
            found = hiding(p, places)
            self.assertEqual(found, hiding_row(p, places, len(places) + 1))
            self.assertEqual(value(p, found, 0), 1)
            self.assertEqual([value(p, found, place) for place in places], [0] * len(places))
        self.assertEqual(hiding(997, tuple(range(1, 61))), hiding_row(997, range(1, 61), 61))

    def test_hidden(self):
        for places in ((), (2,), (1, 4), (3, 2, 1)):
            row = hiding_row(5, places, 4)
            for poly in all_polys(5, 2):
                for goal in range(5):
                    change = goal - value(5, poly, 0)
                    wide = tuple(poly) + (0,) * (4 - len(poly))
                    self.assertEqual(hidden(5, poly, places, goal),
                                     trim([(x + change * y) % 5 for x, y in zip(wide, row)]))
        self.assertEqual(hidden(7, (), (), 4), (4,))
        self.assertEqual(hidden(7, (4, 2), (), 0), (0, 2))
        self.assertEqual(hidden(7, (4, 2), (3,), 4), (4, 2))
        self.assertEqual(len(hidden(997, (), tuple(range(1, 61)), 5)), 61)

    def test_what_places_see(self):
        polys = all_polys(5, 2)
        for places in ((), (2,), (1, 4)):
            for seen in all_rows(5, len(places)):
                counts = [0] * 5
                for poly in polys:
                    if tuple(value_at(5, poly, place) for place in places) == seen:
                        counts[value_at(5, poly, 0)] += 1
                self.assertEqual(counts, [5 ** (2 - len(places))] * 5)


class RefusalsTest(Case):

    def test_is_poly_wants_a_field(self):
        for field in WRONG_FIELDS:
            for odd in ODD:
                self.raises(InvalidNumber, field, is_poly, field, odd)

    def test_polys(self):
        self.refuses(poly_sum, (7, P, (1,)), (FIELD, POLY, POLY))
        self.refuses(poly_scaled, (7, P, 3), (FIELD, POLY, NUMBER))
        self.refuses(poly_product, (7, P, (1,)), (FIELD, POLY, POLY), [(TooMany, 60, (7, (1,) * 60, (1, 1, 1)))])
        self.refuses(poly_divided, (7, P, (1,)), (FIELD, POLY, POLY), [(Refused, ("zero",), (7, P, ()))])

    def test_values(self):
        self.refuses(value_at, (7, P, 3), (FIELD, POLY, NUMBER))
        self.refuses(values_at, (7, P, (3, 0)), (FIELD, POLY, PLACES))

    def test_places(self):
        self.refuses(through, (7, ((0, 1), (3, 3))), (FIELD, POINTS))
        self.refuses(weights, (7, (1, 0), 3), (FIELD, PLACES, NUMBER))
        self.refuses(checks, (7, (1, 0), 1), (FIELD, PLACES, DEGREE))
        self.refuses(hiding, (7, (1, 3)), (FIELD, HIDDEN_PLACES))
        self.refuses(hidden, (7, P, (1, 3), 3), (FIELD, POLY, HIDDEN_PLACES, NUMBER))

    def test_sixty_and_sixty_one_places(self):
        for places in (tuple(range(1, 61)), tuple(range(100, 160))):
            for function, before, behind in (
                    (values_at, (997, P), ()), (weights, (997,), (3,)), (checks, (997,), (3,)), (hiding, (997,), ()),
                    (hidden, (997, P), (3,))):
                function(*before, places, *behind)
                self.raises(InvalidOperation, None, function, *before, places + (900,), *behind)
                self.raises(InvalidOperation, None, function, *before, places[:-1] + (places[0],), *behind)
