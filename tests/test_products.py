"""Stage 13: products."""

import random
from itertools import combinations, product

from evencoins.errors import InvalidCircuit, InvalidHall, InvalidNumber, InvalidOperation, InvalidWord
from evencoins.plan.circuits import Circuit
from evencoins.talk.halls import Hall
from evencoins.talk.products import errors_told, local_products, opened_number, product_share, syndromes_of
from tests.helper import (
    LARGE, LONG, ODD, PRODUCT, SMALL, WRONG_CIRCUITS, WRONG_HALLS, Case, all_polys, all_rows, value, wrong_numbers,
    wrong_rows,
)
from tests.test_halls import DEEP, WIDE, WIDEST

HALL = (InvalidHall, WRONG_HALLS)
HALLS = (SMALL, LARGE, WIDE, WIDEST, Hall(5, 4, 1, "look"), Hall(11, 6, 1, "lie"), Hall(997, 9, 2, "lie"))
ROOMY = Hall(11, 9, 1, "lie")


def random_poly(told, field, degree, number=None):
    """A row of numbers of a poly of at most this degree."""
    return (told.randrange(field) if number is None else number,) + tuple(told.randrange(field) for _ in range(degree))


def word_by(hall, poly):
    """The values of a poly at all houses."""
    return tuple(value(hall.field, poly, place) for place in range(1, hall.houses + 1))


def units(hall):
    """What undoes for each house the product of the differences to all others."""
    found = []
    for i in range(1, hall.houses + 1):
        total = 1
        for j in range(1, hall.houses + 1):
            total = total * (i - j) % hall.field if i != j else total
        found.append(pow(total, -1, hall.field))
    return found


def syndromes_by(hall, word):
    """The syndromes of a word of numbers."""
    u = units(hall)
    return tuple(sum(u[i - 1] * i ** m * word[i - 1] for i in range(1, hall.houses + 1)) % hall.field
                 for m in range(hall.houses - 2 * hall.most - 1))


def at_zero(hall, word):
    """The value at 0 of the poly through all points of a word."""
    total = 0
    for i in range(1, hall.houses + 1):
        term = word[i - 1]
        for j in range(1, hall.houses + 1):
            if i != j:
                term = term * j * pow(j - i, -1, hall.field) % hall.field
        total += term
    return total % hall.field


def degree_of(hall, word):
    """The least degree of a poly with this word."""
    rows = [list(word)]
    for degree in range(-1, hall.houses):
        if not any(rows[-1]):
            return degree
        rows.append([(b - a) % hall.field for a, b in zip(rows[-1], rows[-1][1:])])


class ExamplesTest(Case):

    def test_examples(self):
        self.assertEqual([product_share(SMALL, (1, 2, 3), {}), product_share(LARGE, (1, 1, 1, 1, 1), {}),
                          product_share(LARGE, (1, 1, 1, 4, 1), {4: 3})], [0, 1, 1])
        self.assertEqual([syndromes_of(LARGE, (0, 0, 0, 3, 0)), errors_told(LARGE, (3, 5)), errors_told(LARGE, (0, 1)),
                          opened_number(LARGE, (2, 2, 5, 2, 2))], [(3, 5), {4: 3}, {}, 2])


class LocalTest(Case):

    def test_levels(self):
        shares = {0: 3, 1: 5, 2: 1, 3: 4, 4: 2, 5: 3, 6: 2, 7: 6, 8: 5}
        for hall in (SMALL, LARGE):
            self.same((1, 2), local_products, hall, DEEP, 0, shares)
            self.same((2,), local_products, hall, DEEP, 1, shares)
            self.same((2,), local_products, hall, DEEP, 2, shares)
            self.same((6,), local_products, hall, PRODUCT, 0, {1: 2, 0: 3})
            self.same((6,), local_products, hall, PRODUCT, 0, {2: 2, 1: 1, 0: 6})
        many = Circuit((("input", 1),) + tuple(("product", 0, 0) for _ in range(5)), ((5, (1,)),))
        self.same((4,) * 5, local_products, SMALL, many, 0, {0: 5})

    def test_only_factors_are_needed(self):
        for shares in ({0: 3, 1: 5, 3: 4}, {0: 3, 1: 5, 3: 4, 9: 0}):
            self.same((1, 2), local_products, LARGE, DEEP, 0, shares)
        self.same((4,), local_products, LARGE, DEEP, 1, {5: 2})

    def test_refused(self):
        wrong = (InvalidOperation, (
            None, (), 1, ((0, 1), (1, 2)), [1, 2], {}, {0: 1}, {1: 1}, {0: 1, 1: 7}, {0: 1, 1: -1}, {0: 1, 1: True},
            {0: False, 1: 1}, {0: 1, 1: None}, {0: 1, 1: LONG}, {0: 1, 1: "1"}, {False: 1, True: 1}, {0: 1, True: 1},
            {0: 1, 1: 1, 3: 1}, {0: 1, 1: 1, -1: 1}, {0: 1, 1: 1, None: 1}, {0: 1, 1: 1, "2": 1}, {0: 1, 1: 1, (2,): 1},
            {0: 1, 1: (1,)}, {0: 1, 2: 1}, {0: 1, 1: 1, 2: 7}, {0: 1, 1: 1, LONG: 1}))
        for hall in (SMALL, LARGE):
            self.refuses(local_products, (hall, PRODUCT, 0, {0: 1, 1: 1}), (
                HALL, (InvalidCircuit, WRONG_CIRCUITS), (InvalidNumber, wrong_numbers(0, 0)), wrong))
        for level in (-1, 3, None, True):
            self.raises(InvalidNumber, level, local_products, LARGE, DEEP, level, {})
        plain = Circuit((("input", 1),), ((0, (1,)),))
        for level in (0, 1, -1):
            self.raises(InvalidNumber, level, local_products, LARGE, plain, level, {0: 1})


class SharesTest(Case):

    def test_new_shares(self):
        told = random.Random(1)
        for hall in HALLS:
            n, t, p = hall.houses, hall.most, hall.field
            for _ in range(20):
                f, g = random_poly(told, p, t), random_poly(told, p, t)
                own = [value(p, f, i) * value(p, g, i) % p for i in range(1, n + 1)]
                polys = [random_poly(told, p, t, number) for number in own]
                words = [tuple(value(p, poly, j) for poly in polys) for j in range(1, n + 1)]
                shares = tuple(product_share(hall, word, {}) for word in words)
                self.assertLessEqual(degree_of(hall, shares), t)
                self.assertEqual(opened_number(hall, shares), f[0] * g[0] % p)
                if hall.kind == "lie":
                    self.is_worked_out(told, hall, polys, words, f[0] * g[0] % p)

    def is_worked_out(self, told, hall, polys, words, number):
        """The new shares are right if the lot's dealings are wrong."""
        n, t, p = hall.houses, hall.most, hall.field
        lot = told.sample(range(1, n + 1), told.randrange(t + 1))
        others = [random_poly(told, p, t) if i + 1 in lot else poly for i, poly in enumerate(polys)]
        words = [tuple(value(p, poly, j) for poly in others) for j in range(1, n + 1)]
        shares = [syndromes_of(hall, word) for word in words]
        heard = [tuple(told.randrange(p) for _ in row) if j + 1 in lot else row for j, row in enumerate(shares)]
        opened = tuple(opened_number(hall, tuple(row[m] for row in heard)) for m in range(n - 2 * t - 1))
        right = {i: (others[i - 1][0] - polys[i - 1][0]) % p for i in sorted(lot) if others[i - 1][0] != polys[i - 1][0]}
        self.same(right, errors_told, hall, opened)
        new = tuple(product_share(hall, word, right) for word in words)
        self.assertLessEqual(degree_of(hall, new), t)
        self.assertEqual(opened_number(hall, new), number)

    def test_weights(self):
        told = random.Random(2)
        for hall in HALLS:
            for _ in range(30):
                word = tuple(told.randrange(hall.field) for _ in hall.places)
                self.same(at_zero(hall, word), product_share, hall, word, {})
                errors = {place: told.randrange(1, hall.field)
                          for place in told.sample(hall.places, told.randrange(hall.most + 1))}
                if hall.kind == "lie":
                    less = tuple((x - errors.get(i + 1, 0)) % hall.field for i, x in enumerate(word))
                    self.same(at_zero(hall, less), product_share, hall, word, errors)

    def test_errors_by_descending_places(self):
        word = (1, 2, 3, 4, 5, 6, 7, 8, 9)
        self.assertEqual(product_share(WIDE, word, {9: 1, 2: 3}), product_share(WIDE, word, {2: 3, 9: 1}))


class SyndromesTest(Case):

    def test_syndromes(self):
        told = random.Random(3)
        for hall in HALLS + (ROOMY,):
            if hall.kind == "lie":
                for _ in range(30):
                    word = tuple(told.randrange(hall.field) for _ in hall.places)
                    self.same(syndromes_by(hall, word), syndromes_of, hall, word)
                    poly = random_poly(told, hall.field, 2 * hall.most)
                    self.assertEqual(set(syndromes_of(hall, word_by(hall, poly))), {0})
                    self.assertEqual(not any(syndromes_of(hall, word)), degree_of(hall, word) <= 2 * hall.most)

    def test_errors_alone(self):
        told = random.Random(4)
        for hall in (LARGE, WIDE):
            for _ in range(30):
                errors = {place: told.randrange(1, hall.field) for place in told.sample(hall.places, hall.most)}
                rows = set()
                for _ in range(3):
                    word = word_by(hall, random_poly(told, hall.field, 2 * hall.most))
                    rows.add(syndromes_of(hall, tuple(
                        (x + errors.get(i + 1, 0)) % hall.field for i, x in enumerate(word))))
                self.assertEqual(len(rows), 1)
                self.same({place: errors[place] for place in sorted(errors)}, errors_told, hall, rows.pop())

    def all_errors(self, hall, most):
        """All dicts of errors at no more places."""
        for many in range(most + 1):
            for places in combinations(hall.places, many):
                for numbers in product(range(1, hall.field), repeat=many):
                    yield dict(zip(places, numbers))

    def test_all_errors(self):
        for hall, step in ((LARGE, 1), (Hall(7, 6, 1, "lie"), 1), (Hall(11, 8, 1, "lie"), 1), (WIDE, 19)):
            rows = {}
            for errors in self.all_errors(hall, hall.most):
                row = syndromes_by(hall, tuple(errors.get(place, 0) for place in hall.places))
                self.assertNotIn(row, rows)
                rows[row] = errors
            for row, errors in list(rows.items())[::step]:
                self.same(errors, errors_told, hall, row)
            if hall is LARGE:
                for row in all_rows(7, 2):
                    self.same(rows.get(row, {}), errors_told, hall, row)

    def test_rows_that_none_have(self):
        told = random.Random(5)
        rows = set(syndromes_by(WIDE, tuple(errors.get(place, 0) for place in WIDE.places))
                   for errors in self.all_errors(WIDE, 2))
        self.assertEqual(len(rows), 1 + 9 * 10 + 36 * 100)
        others = [row for row in product(range(11), repeat=4) if row not in rows]
        for row in told.sample(others, 40):
            self.same({}, errors_told, WIDE, row)

    def test_more_errors_than_led_houses(self):
        for errors in ({1: 2, 3: 4}, {1: 2, 5: 1, 9: 10}):
            row = syndromes_by(ROOMY, tuple(errors.get(place, 0) for place in ROOMY.places))
            self.same({}, errors_told, ROOMY, row)
        self.same({9: 10}, errors_told, ROOMY, syndromes_by(ROOMY, (0,) * 8 + (10,)))


class OpenedTest(Case):

    def test_look(self):
        told = random.Random(6)
        for hall in (SMALL, WIDEST, Hall(5, 4, 1, "look")):
            for _ in range(60):
                poly = random_poly(told, hall.field, hall.most)
                word = list(word_by(hall, poly))
                for place in range(hall.most + 1, hall.houses):
                    word[place] = told.randrange(hall.field)
                self.same(poly[0], opened_number, hall, tuple(word))

    def test_lie(self):
        for hall, words in ((LARGE, all_rows(7, 5)[::7]), (Hall(7, 6, 1, "lie"), all_rows(7, 6)[::97])):
            near = {}
            for poly in all_polys(hall.field, hall.most):
                near[word_by(hall, poly)] = value(hall.field, poly, 0)
            for word in words:
                right = 0
                for other, number in near.items():
                    if sum(a != b for a, b in zip(word, other)) <= hall.most:
                        right = number
                self.same(right, opened_number, hall, word)

    def test_wrong_shares(self):
        told = random.Random(7)
        for hall in (LARGE, WIDE, ROOMY):
            for index in range(60):
                poly = random_poly(told, hall.field, hall.most, told.randrange(1, hall.field))
                word = list(word_by(hall, poly))
                many = index % (hall.most + 1)
                for place in told.sample(range(hall.houses), many):
                    word[place] = (word[place] + told.randrange(1, hall.field)) % hall.field
                self.same(poly[0], opened_number, hall, tuple(word))
        self.same(0, opened_number, LARGE, (1, 1, 1, 2, 3))
        self.same(0, opened_number, ROOMY, (1, 1, 1, 1, 1, 1, 1, 2, 3))
        self.same(1, opened_number, WIDE, (1, 1, 1, 1, 1, 1, 1, 2, 3))


class RefusalsTest(Case):

    def test_words(self):
        for hall in (LARGE, WIDE):
            n, t, p = hall.houses, hall.most, hall.field
            def rows(many):
                return InvalidWord, wrong_rows(p, many) + ((), (1,) * (many - 1), (1,) * (many + 1))
            self.refuses(opened_number, (hall, (1,) * n), (HALL, rows(n)))
            self.refuses(syndromes_of, (hall, (1,) * n), (HALL, rows(n)))
            self.refuses(errors_told, (hall, (1,) * (n - 2 * t - 1)), (HALL, rows(n - 2 * t - 1)))
            wrong = (InvalidOperation, (
                None, (), [], 1, ((1, 1),), {0: 1}, {n + 1: 1}, {True: 1}, {1: 0}, {1: p}, {1: -1}, {1: True}, {1: None},
                {None: 1}, {"1": 1}, {(1,): 1}, {1: (1,)}, {1: LONG}, {LONG: 1}, {k + 1: 1 for k in range(t + 1)},
                {1: 1, 2: 0}, {k + 1: 1 for k in range(n)}))
            self.refuses(product_share, (hall, (1,) * n, {2: 3}), (HALL, rows(n), wrong))
        self.refuses(product_share, (SMALL, (1,) * 3, {}), (HALL, (InvalidWord, wrong_rows(7, 3)), wrong))
        self.refuses(opened_number, (SMALL, (1,) * 3), (HALL, (InvalidWord, wrong_rows(7, 3) + ((1,) * 2, (1,) * 4))))

    def test_behind_all_others(self):
        self.raises(InvalidOperation, None, syndromes_of, WIDEST, (1,) * 9)
        self.raises(InvalidOperation, None, errors_told, Hall(11, 9, 2, "look"), (0,) * 4)
        for function, many in ((syndromes_of, 3), (errors_told, 0)):
            self.raises(InvalidOperation, None, function, SMALL, (1,) * many)
            for odd in ODD:
                self.raises(InvalidWord, None, function, SMALL, odd)
            self.raises(InvalidWord, None, function, SMALL, (1,) * (many + 1))
