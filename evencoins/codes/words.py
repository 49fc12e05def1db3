"""Words: numbers at the places 1 to n, near a poly or far from all."""

from itertools import combinations

from evencoins.base.field import are_numbers, check_field, check_integer, inverse, is_ascending, sum_of_products
from evencoins.base.polys import check_poly, check_rows, evaluated, interpolated, is_poly
from evencoins.base.tables import solution_or_bar
from evencoins.errors import InvalidOperation, InvalidWord

MAX_HOUSES = 9
MAX_ERRORS = 4


def is_word(field, value):
    """Whether the value is a tuple of 1 to 9 numbers, fewer than the field has."""
    check_field(field)
    return are_numbers(field, value) and 1 <= len(value) <= min(MAX_HOUSES, field - 1)


def check_word(field, word):
    """Refuse what is no word."""
    if not is_word(field, word):
        raise InvalidWord("not a word")


def check_houses(field, houses):
    """Refuse what is no number of houses."""
    check_integer(houses, 1, min(MAX_HOUSES, field - 1))


def check_near(field, word, degree, errors):
    """Refuse what is no word with a degree and a number of errors."""
    check_field(field)
    check_word(field, word)
    check_integer(degree, 0, len(word) - 1)
    check_integer(errors, 0, min(MAX_ERRORS, len(word)))


def places_of(word):
    """The places of a word."""
    return tuple(range(1, len(word) + 1))


def misses(field, word, poly):
    """The places at which a poly does not fit the word."""
    return tuple([place for place in places_of(word) if evaluated(field, poly, place) != word[place - 1]])


def poly_at(field, word, places):
    """The poly of degree below the number of the places that fits the word there."""
    return interpolated(field, places, [word[place - 1] for place in places])


def far_row(field, word, places):
    """A row that is 0 but at the places, one more than polys need, and bars all polys there."""
    unit_row = check_rows(field, places, len(places) - 2)[0]
    total = sum_of_products(field, unit_row, [word[place - 1] for place in places])
    factor = inverse(field, total)
    row = [0] * len(word)
    for place, unit in zip(places, unit_row):
        row[place - 1] = factor * unit % field
    return tuple(row)


def poly_or_row(field, word, degree, lost):
    """The poly that fits at all places but the lost ones, and a row that bars all polys there: one of both is None."""
    kept = tuple([place for place in places_of(word) if place not in lost])
    poly = poly_at(field, word, kept[:degree + 1])
    wrong = [place for place in misses(field, word, poly) if place not in lost]
    if not wrong:
        return poly, None
    return None, far_row(field, word, kept[:degree + 1] + (wrong[0],))


def paper_of(field, word, degree, errors):
    """The paper for a word that is known to be one."""
    rows = []
    for lost in combinations(range(1, len(word) + 1), errors):
        poly, row = poly_or_row(field, word, degree, lost)
        if row is None:
            return "near", poly, misses(field, word, poly)
        rows.append(row)
    return "far", tuple(rows)


def near_or_far(field, word, degree, errors):
    """Either a near poly with the places of its errors, or a row against each choice of such places."""
    check_near(field, word, degree, errors)
    return paper_of(field, word, degree, errors)


def is_near_paper(field, word, degree, errors, value):
    """Whether a pair of values is a near poly with all places at which it does not fit."""
    poly, places = value
    if not is_poly(field, poly) or len(poly) > degree + 1 or not is_ascending(places, 1, len(word)):
        return False
    return len(places) <= errors and places == misses(field, word, poly)


def is_far_row(field, word, degree, lost, value):
    """Whether the value is a row that bars all polys at all but the lost places."""
    if not are_numbers(field, value) or len(value) != len(word) or sum_of_products(field, value, word) != 1:
        return False
    row = value
    for _ in range(degree + 1):
        if sum(row) % field != 0:
            return False
        row = [x * place % field for x, place in zip(row, places_of(word))]
    return all([value[place - 1] == 0 for place in lost])


def are_far_rows(field, word, degree, errors, value):
    """Whether the value is the tuple of such rows, for all choices of lost places."""
    choices = list(combinations(range(1, len(word) + 1), errors))
    if not isinstance(value, tuple) or len(value) != len(choices):
        return False
    return all([is_far_row(field, word, degree, lost, row) for lost, row in zip(choices, value)])


def is_word_paper(field, word, degree, errors, value):
    """Whether the value shows that the word is near, or that it is far."""
    check_near(field, word, degree, errors)
    if not isinstance(value, tuple) or len(value) < 2:
        return False
    if value[0] == "near" and len(value) == 3:
        return is_near_paper(field, word, degree, errors, value[1:])
    return value[0] == "far" and len(value) == 2 and are_far_rows(field, word, degree, errors, value[1])


def near_poly(field, word, degree, errors):
    """The near poly of a word that is known to be one, or None."""
    paper = paper_of(field, word, degree, errors)
    return paper[1] if paper[0] == "near" else None


def decoded(field, word, degree, errors):
    """The only near poly, or None."""
    check_near(field, word, degree, errors)
    if len(word) <= degree + 2 * errors:
        raise InvalidOperation("several polys can be near")
    return near_poly(field, word, degree, errors)


def syndromes(field, word, degree):
    """The sums of the word with the checks: all 0 for the word of a poly."""
    check_field(field)
    check_word(field, word)
    check_integer(degree, 0, len(word) - 1)
    return tuple([sum_of_products(field, row, word) for row in check_rows(field, places_of(word), degree)])


def some_word(field, houses, degree, told):
    """A word with these syndromes: there is one, as the checks are independent."""
    if told == ():
        return (0,) * houses
    rows = check_rows(field, tuple(range(1, houses + 1)), degree)
    word, numbers = solution_or_bar(field, rows, told)
    return numbers


def errors_of(field, houses, degree, told):
    """The few errors with these syndromes, or None: what a word with them has more than its near poly."""
    check_field(field)
    check_houses(field, houses)
    check_integer(degree, 0, houses - 1)
    if not are_numbers(field, told) or len(told) != houses - degree - 1:
        raise InvalidWord("not syndromes")
    word = some_word(field, houses, degree, told)
    poly = near_poly(field, word, degree, len(told) // 2)
    if poly is None:
        return None
    return {place: (word[place - 1] - evaluated(field, poly, place)) % field for place in misses(field, word, poly)}


def word_of(field, houses, poly):
    """The word that a poly fits everywhere."""
    check_field(field)
    check_houses(field, houses)
    check_poly(field, poly)
    return tuple([evaluated(field, poly, place) for place in range(1, houses + 1)])
