"""Stage 4: words near polys."""

import random
from itertools import combinations, product

from evencoins.codes.words import (
    decoded, errors_of, is_word, is_word_paper, near_or_far, syndromes, word_of,
)
from evencoins.errors import InvalidNumber, InvalidOperation, InvalidPoly, InvalidWord
from tests.helper import (
    LONG, ODD, WRONG_FIELDS, Case, all_polys, all_rows, dot, value, wrong_numbers, wrong_rows,
)

FIELD = (InvalidNumber, WRONG_FIELDS)
WORD = (InvalidWord, wrong_rows(7, 3) + ((), (1,) * 7, (1,) * 9, (1,) * 10))
WORD7 = (3, 6, 0, 2, 4)


def word_by(field, poly, many):
    """The word that a poly fits."""
    return tuple(value(field, poly, place) for place in range(1, many + 1))


def wrong_at(field, poly, word):
    """The places at which a poly does not fit."""
    return tuple(k + 1 for k, x in enumerate(word) if value(field, poly, k + 1) != x)


def bars(field, word, degree, lost, row):
    """Whether a row stands against all polys that miss at the lost places alone."""
    sums = [sum(x * (k + 1) ** power for k, x in enumerate(row)) % field for power in range(degree + 1)]
    return not any(sums) and not any(row[place - 1] for place in lost) and dot(field, row, word) == 1


class ExamplesTest(Case):

    def test_examples(self):
        self.assertEqual(
            [word_of(7, 5, (1, 2)), near_or_far(7, WORD7, 1, 1), decoded(7, WORD7, 1, 1), decoded(7, (0, 1, 4), 0, 1)],
            [(3, 5, 0, 2, 4), ("near", (1, 2), (2,)), (1, 2), None])
        self.assertEqual(
            [syndromes(7, (3, 5, 0, 2, 4), 1), syndromes(7, (0, 1, 0), 0), errors_of(7, 3, 0, (6, 5)),
             errors_of(7, 3, 0, (1, 0)), errors_of(7, 3, 0, (0, 0))],
            [(0, 0, 0), (6, 5), {2: 1}, None, {}])
        self.assertEqual(
            [near_or_far(7, (0, 0, 1), 0, 0)[0], is_word_paper(7, (0, 0, 1), 0, 0, ("far", ((6, 0, 1),))),
             is_word_paper(7, WORD7, 1, 1, ("near", (1, 2), ()))],
            ["far", True, False])


class WordsTest(Case):

    def test_is_word(self):
        for field, most in ((5, 4), (7, 6), (11, 9), (997, 9)):
            for many in range(12):
                self.assertIs(is_word(field, (1,) * many), 1 <= many <= most)
        for wrong in WORD[1]:
            self.is_false(is_word(7, wrong))
        self.judges(is_word, (7,))

    def test_word_of(self):
        for poly in all_polys(5, 2):
            for many in range(1, 5):
                self.assertEqual(word_of(5, many, poly), word_by(5, poly, many))
        self.assertEqual(word_of(997, 9, (0,) * 60 + (1,)), tuple(pow(place, 60, 997) for place in range(1, 10)))
        self.assertEqual(word_of(5, 1, ()), (0,))


class NearTest(Case):

    def is_right(self, field, word, degree, errors, paper):
        """An own check of a paper, and that of the program."""
        if paper[0] == "near":
            _, poly, places = paper
            self.assertLessEqual(len(poly), degree + 1)
            self.assertLessEqual(len(places), errors)
            self.assertEqual(places, wrong_at(field, poly, word))
        else:
            choices = list(combinations(range(1, len(word) + 1), errors))
            self.assertEqual((paper[0], len(paper), len(paper[1])), ("far", 2, len(choices)))
            for lost, row in zip(choices, paper[1]):
                self.assertEqual((type(row), len(row)), (tuple, len(word)))
                self.assertTrue(bars(field, word, degree, lost, row))
        self.is_true(is_word_paper(field, word, degree, errors, paper))

    def test_near_or_far(self):
        for many, step in ((1, 1), (2, 1), (3, 1), (4, 5)):
            for degree in range(many):
                polys = all_polys(5, degree)
                for word in all_rows(5, many)[::step]:
                    misses = sorted(len(wrong_at(5, poly, word)) for poly in polys)
                    for errors in range(many + 1):
                        self.is_near_or_far(5, word, degree, errors, misses)

    def is_near_or_far(self, field, word, degree, errors, misses):
        paper = near_or_far(field, word, degree, errors)
        self.assertEqual(paper[0], "near" if misses[0] <= errors else "far")
        self.is_right(field, word, degree, errors, paper)
        if len(word) > degree + 2 * errors:
            self.assertLessEqual(len([k for k in misses if k <= errors]), 1)
            self.assertEqual(decoded(field, word, degree, errors), paper[1] if paper[0] == "near" else None)
        else:
            self.raises(InvalidOperation, None, decoded, field, word, degree, errors)

    def test_longer_words(self):
        told = random.Random(4)
        for field, many in ((7, 6), (11, 9), (997, 9)):
            for _ in range(25):
                degree = told.randrange(many)
                poly = tuple(told.randrange(field) for _ in range(degree)) + (1,)
                word = list(word_by(field, poly, many))
                for place in told.sample(range(many), told.randrange(min(4, many) + 1)):
                    word[place] = told.randrange(field)
                for errors in range(5):
                    paper = near_or_far(field, tuple(word), degree, errors)
                    self.is_right(field, tuple(word), degree, errors, paper)
                    if len(wrong_at(field, poly, word)) <= errors:
                        self.assertEqual(paper[0], "near")

    def test_decoded(self):
        for field, many, degree, errors in ((11, 9, 0, 4), (11, 9, 2, 3), (997, 9, 4, 2), (7, 6, 3, 1), (7, 6, 5, 0)):
            poly = tuple(range(1, degree + 2))
            word = word_by(field, poly, many)
            for places in combinations(range(many), errors):
                wrong = tuple((x + k + 1) % field if k in places else x for k, x in enumerate(word))
                self.assertEqual(decoded(field, wrong, degree, errors), poly)
                self.assertEqual(near_or_far(field, wrong, degree, errors),
                                 ("near", poly, tuple(place + 1 for place in places)))

    def test_decoded_needs_places(self):
        self.assertEqual(decoded(5, (1, 1, 1, 1), 1, 1), (1,))
        self.assertEqual(decoded(5, (0, 0, 0), 0, 1), ())
        for word, degree, errors in (((1, 1, 1), 1, 1), ((1, 1, 1, 1), 2, 1), ((2,), 0, 1), ((1, 2), 0, 1)):
            self.raises(InvalidOperation, None, decoded, 5, word, degree, errors)
        self.raises(InvalidOperation, None, decoded, 11, (0,) * 8, 0, 4)
        self.assertEqual(decoded(11, (0,) * 9, 0, 4), ())

    def test_every_near_paper(self):
        for word in all_rows(5, 3)[::3]:
            for degree in range(3):
                for poly in all_polys(5, 2):
                    for errors in range(4):
                        right = len(poly) <= degree + 1 and len(wrong_at(5, poly, word)) <= errors
                        paper = ("near", poly, wrong_at(5, poly, word))
                        self.assertIs(is_word_paper(5, word, degree, errors, paper), right)

    def test_every_far_paper(self):
        rows = all_rows(5, 3)
        for word in rows[::7]:
            for degree in range(3):
                for row in rows:
                    self.assertIs(is_word_paper(5, word, degree, 0, ("far", (row,))), bars(5, word, degree, (), row))
        word, lost = (0, 1, 3), ((1,), (2,), (3,))
        right = [[row for row in rows if bars(5, word, 0, places, row)][0] for places in lost]
        for papers in product(right, repeat=3):
            holds = all(bars(5, word, 0, places, row) for places, row in zip(lost, papers))
            self.assertIs(is_word_paper(5, word, 0, 1, ("far", papers)), holds)

    def test_other_far_rows(self):
        word = (0, 1, 4, 2)
        rows = [row for row in all_rows(5, 4) if bars(5, word, 0, (), row)]
        self.assertEqual(len(rows), 25)
        for row in rows:
            self.is_true(is_word_paper(5, word, 0, 0, ("far", (row,))))

    def test_nothing_else(self):
        self.accepts(is_word_paper, (7, WORD7, 1, 1), ("near", (1, 2), (2,)))
        self.accepts(is_word_paper, (7, (0, 0, 1), 0, 0), ("far", ((6, 0, 1),)))
        self.accepts(is_word_paper, (7, (0, 0, 1), 0, 1), ("near", (), (3,)))
        self.accepts(is_word_paper, (5, (1, 0), 0, 1), ("near", (1,), (2,)))
        self.accepts(is_word_paper, (5, (1, 0), 0, 2), ("near", (4,), (1, 2)))
        far = near_or_far(11, (0, 1, 8, 5, 4, 7), 1, 1)
        self.accepts(is_word_paper, (11, (0, 1, 8, 5, 4, 7), 1, 1), far)
        for arguments in ((7, WORD7, 1, 1), (7, (0, 0, 1), 0, 0), (5, (1,), 0, 0)):
            self.judges(is_word_paper, arguments)
        self.is_false(is_word_paper(11, (0, 1, 8, 5, 4, 7), 1, 1, ("far", far[1][::-1])))
        self.is_false(is_word_paper(11, (0, 1, 8, 5, 4, 7), 1, 1, ("far", far[1][:-1])))
        self.is_false(is_word_paper(11, (0, 1, 8, 5, 4, 7), 1, 1, ("far", far[1] + far[1][:1])))
        self.is_false(is_word_paper(11, (0, 1, 8, 5, 4, 7), 1, 1, ("far", ())))

    def test_all_misses(self):
        for places in ((), (1,), (2, 3), (3, 2), (2, 2), (1, 2)):
            self.is_false(is_word_paper(7, (1, 1, 2), 0, 3, ("near", (1,), places)))
        self.is_true(is_word_paper(7, (1, 1, 2), 0, 3, ("near", (1,), (3,))))
        self.is_false(is_word_paper(7, (1, 1, 2), 0, 3, ("near", (1, 0), (3,))))
        self.is_false(is_word_paper(7, (1, 2, 3), 0, 0, ("near", (0, 1), ())))
        self.is_true(is_word_paper(7, (1, 2, 3), 1, 0, ("near", (0, 1), ())))
        self.is_false(is_word_paper(7, (1, 1, 2), 0, 0, ("near", (1,), (3,))))


class SyndromesTest(Case):

    def test_sums(self):
        for field, many in ((5, 4), (7, 6), (997, 9)):
            word = tuple((k * k * k + 2) % field for k in range(many))
            units = []
            for i in range(1, many + 1):
                whole = 1
                for j in range(1, many + 1):
                    whole = whole * (i - j if i != j else 1) % field
                units.append(pow(whole, -1, field))
            for degree in range(many):
                right = tuple(sum(u * i ** m * x for u, i, x in zip(units, range(1, many + 1), word)) % field
                              for m in range(many - degree - 1))
                self.assertEqual(syndromes(field, word, degree), right)

    def test_zero_exactly_for_polys(self):
        for many in (1, 2, 3, 4):
            for degree in range(many):
                right = set(word_by(5, poly, many) for poly in all_polys(5, degree))
                for word in all_rows(5, many):
                    found = syndromes(5, word, degree)
                    self.assertEqual(len(found), many - degree - 1)
                    self.assertEqual(not any(found), word in right)

    def test_of_sums(self):
        for degree in (0, 1, 2):
            for one in all_rows(5, 3)[::4]:
                for other in all_rows(5, 3)[::7]:
                    both = tuple((x + y) % 5 for x, y in zip(one, other))
                    self.assertEqual(syndromes(5, both, degree), tuple(
                        (x + y) % 5 for x, y in zip(syndromes(5, one, degree), syndromes(5, other, degree))))

    def test_hang_on_errors_alone(self):
        for poly in all_polys(7, 1):
            word = word_by(7, poly, 5)
            wrong = word[:3] + ((word[3] + 4) % 7,) + word[4:]
            self.assertEqual(syndromes(7, wrong, 1), syndromes(7, (0, 0, 0, 4, 0), 1))
            self.assertEqual(errors_of(7, 5, 1, syndromes(7, wrong, 1)), {4: 4})

    def test_errors_of(self):
        for field, many in ((5, 1), (5, 2), (5, 3), (5, 4), (7, 4)):
            for degree in range(many):
                size = many - degree - 1
                right = {}
                for row in all_rows(field, many):
                    places = {k + 1: x for k, x in enumerate(row) if x}
                    if len(places) <= size // 2:
                        right[syndromes(field, row, degree)] = places
                for told in all_rows(field, size):
                    found = errors_of(field, many, degree, told)
                    self.assertEqual(found, right.get(told))

    def test_errors_at_many_places(self):
        told = random.Random(9)
        for degree, most in ((0, 4), (1, 3), (2, 3), (3, 2), (4, 2), (5, 1), (6, 1), (7, 0), (8, 0)):
            for many in range(most + 1):
                places = sorted(told.sample(range(1, 10), many))
                errors = {place: told.randrange(1, 11) for place in places}
                word = tuple(errors.get(place, 0) for place in range(1, 10))
                found = errors_of(11, 9, degree, syndromes(11, word, degree))
                self.assertEqual(list(found.items()), list(errors.items()))
        self.assertIsNone(errors_of(11, 9, 7, (1,)))
        self.assertEqual([errors_of(11, 9, 8, ()), errors_of(5, 1, 0, ())], [{}, {}])

    def test_found_errors_are_nobody_elses(self):
        errors_of(7, 3, 0, (6, 5))[2] = 4
        self.assertEqual(errors_of(7, 3, 0, (6, 5)), {2: 1})

    def test_not_told_by_one_syndrome(self):
        self.assertEqual(near_or_far(5, (1, 0), 0, 1)[0], "near")
        self.assertIsNone(errors_of(5, 2, 0, syndromes(5, (1, 0), 0)))


class RefusalsTest(Case):

    def test_is_word_wants_a_field(self):
        for field in WRONG_FIELDS:
            for odd in ODD:
                self.raises(InvalidNumber, field, is_word, field, odd)

    def test_near(self):
        degree = (InvalidNumber, wrong_numbers(0, 4) + (6, 9))
        errors = (InvalidNumber, wrong_numbers(0, 4) + (6,))
        for function in (near_or_far, lambda *four: is_word_paper(*four, ("near", (), ())),
                         lambda *four: is_word_paper(*four, None)):
            self.refuses(function, (7, WORD7, 4, 4), (FIELD, WORD, degree, errors))
        self.refuses(decoded, (7, WORD7, 2, 1), (FIELD, WORD, degree, errors), [
            (InvalidOperation, None, (7, WORD7, 3, 1)), (InvalidOperation, None, (7, WORD7, 1, 2))])
        self.refuses(syndromes, (7, WORD7, 4), (FIELD, WORD, degree))

    def test_bounds_by_the_word(self):
        for many in range(1, 10):
            word = (1,) * many
            for function in (near_or_far, lambda *four: is_word_paper(*four, ()), decoded):
                self.raises(InvalidNumber, many, function, 11, word, many, 0)
                self.raises(InvalidNumber, many, function, 11, word, many, 9)
                self.raises(InvalidNumber, min(many, 4) + 1, function, 11, word, many - 1, min(many, 4) + 1)
                self.raises(InvalidNumber, -1, function, 11, word, 0, -1)
            near_or_far(11, word, many - 1, min(many, 4))
            self.raises(InvalidNumber, many, syndromes, 11, word, many)
            self.assertEqual(syndromes(11, word, many - 1), ())

    def test_as_many_places_as_numbers(self):
        for field in (5, 7):
            word = (1,) * field
            for function, behind in ((near_or_far, (0, 0)), (decoded, (0, 0)), (syndromes, (0,))):
                function(field, word[1:], *behind)
                self.raises(InvalidWord, None, function, field, word, *behind)
        self.raises(InvalidWord, None, near_or_far, 997, (1,) * 10, 0, 0)

    def test_errors_of(self):
        houses = (InvalidNumber, wrong_numbers(1, 6) + (9, 10))
        told = (InvalidWord, wrong_rows(7, 3) + ((), (1, 2), (1, 2, 3, 4)))
        self.refuses(errors_of, (7, 5, 1, (0, 0, 0)), (
            FIELD, houses, (InvalidNumber, wrong_numbers(0, 4) + (6,)), told))
        self.raises(InvalidNumber, 5, errors_of, 5, 5, 5, ())
        self.raises(InvalidNumber, 10, errors_of, 11, 10, 0, (0,) * 9)
        self.raises(InvalidNumber, 9, errors_of, 11, 9, 9, ())
        self.assertEqual(errors_of(11, 9, 0, (0,) * 8), {})
        self.raises(InvalidWord, None, errors_of, 11, 9, 0, (0,) * 9)
        self.raises(InvalidWord, None, errors_of, 11, 9, 0, (0,) * 7)
        self.raises(InvalidWord, None, errors_of, 7, 3, 2, (0,))

    def test_word_of(self):
        houses = (InvalidNumber, wrong_numbers(1, 6) + (9, 10))
        poly = (InvalidPoly, wrong_rows(7, 2) + ((0,), (1, 0), (1,) * 62))
        self.refuses(word_of, (7, 6, (1, 2)), (FIELD, houses, poly))
        self.raises(InvalidNumber, 5, word_of, 5, 5, ())
        self.raises(InvalidNumber, 10, word_of, 997, 10, ())
        self.raises(InvalidNumber, LONG, word_of, 997, LONG, (0,))
        self.assertEqual(len(word_of(997, 9, (1,) * 61)), 9)
