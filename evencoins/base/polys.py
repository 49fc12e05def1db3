"""Polys in one letter: tuples of numbers by ascending powers."""

from evencoins.base.field import MAX_SIDE, are_numbers, check_field, check_integer, check_number
from evencoins.base.field import inverse
from evencoins.errors import InvalidOperation, InvalidPoly, Refused, TooMany

MAX_DEGREE = 60


def is_poly(field, value):
    """Whether the value is a poly of degree at most 60."""
    check_field(field)
    if not are_numbers(field, value) or len(value) > MAX_DEGREE + 1:
        return False
    return value == () or value[-1] != 0


def are_unlike(field, value):
    """Whether the value is a tuple of at most 60 unlike numbers."""
    return are_numbers(field, value) and len(value) <= MAX_SIDE and len(set(value)) == len(value)


def check_poly(field, poly):
    """Refuse what is no poly."""
    if not is_poly(field, poly):
        raise InvalidPoly("not a poly")


def check_places(field, places):
    """Refuse what are no places."""
    if not are_unlike(field, places) or not places:
        raise InvalidOperation("not places")


def check_hidden_places(field, places):
    """Refuse what are no places other than 0; there can be none of them."""
    if not are_unlike(field, places) or 0 in places:
        raise InvalidOperation("not places other than 0")


def check_points(field, points):
    """Refuse what are no points with unlike places."""
    if not isinstance(points, tuple) or not all([are_numbers(field, pair) and len(pair) == 2 for pair in points]):
        raise InvalidOperation("not points")
    check_places(field, tuple([place for place, value in points]))


def trimmed(numbers):
    """The poly of these numbers: zeros at the end are left out."""
    many = len(numbers)
    while many > 0 and numbers[many - 1] == 0:
        many -= 1
    return tuple(numbers[:many])


def padded(poly, many):
    """The numbers of a poly, with zeros up to so many."""
    return tuple(poly) + (0,) * (many - len(poly))


def scaled(field, poly, number):
    """The multiple of a poly, or of a row of numbers, as a list."""
    return [number * x % field for x in poly]


def added(field, one, other):
    """The sum of two polys."""
    many = max(len(one), len(other))
    return trimmed([(x + y) % field for x, y in zip(padded(one, many), padded(other, many))])


def multiplied(field, one, other):
    """The product of two polys, of whatever degree."""
    if not one or not other:
        return ()
    numbers = [0] * (len(one) + len(other) - 1)
    for k in range(len(one)):
        for m in range(len(other)):
            numbers[k + m] = (numbers[k + m] + one[k] * other[m]) % field
    return tuple(numbers)


def evaluated(field, poly, place):
    """The value of a poly, or of a row of numbers by ascending powers, at a place."""
    value = 0
    for x in reversed(poly):
        value = (value * place + x) % field
    return value


def evaluated_at_all(field, poly, places):
    """The list of the values of a poly, or of a row of numbers, at all places."""
    if not poly:
        return [0] * len(places)
    values = [poly[-1]] * len(places)
    for x in reversed(poly[:-1]):
        values = [(value * place + x) % field for value, place in zip(values, places)]
    return values


def poly_sum(field, one, other):
    """The sum of two polys."""
    check_field(field)
    check_poly(field, one)
    check_poly(field, other)
    return added(field, one, other)


def poly_scaled(field, poly, number):
    """The poly times a number."""
    check_field(field)
    check_poly(field, poly)
    check_number(field, number)
    return trimmed(scaled(field, poly, number))


def poly_product(field, one, other):
    """The product of two polys, if its degree is at most 60."""
    check_field(field)
    check_poly(field, one)
    check_poly(field, other)
    if len(one) + len(other) - 2 > MAX_DEGREE:
        raise TooMany(MAX_DEGREE)
    return multiplied(field, one, other)


def poly_divided(field, one, other):
    """The quotient, and the rest of a degree below that of the second poly."""
    check_field(field)
    check_poly(field, one)
    check_poly(field, other)
    if other == ():
        raise Refused(("zero",))
    rest = list(one)
    quotient = [0] * max(len(one) - len(other) + 1, 0)
    lead = inverse(field, other[-1])
    for k in reversed(range(len(quotient))):
        factor = rest[k + len(other) - 1] * lead % field
        quotient[k] = factor
        for m in range(len(other)):
            rest[k + m] = (rest[k + m] - factor * other[m]) % field
    return trimmed(quotient), trimmed(rest)


def value_at(field, poly, place):
    """The value of a poly at a place."""
    check_field(field)
    check_poly(field, poly)
    check_number(field, place)
    return evaluated(field, poly, place)


def values_at(field, poly, places):
    """The values of a poly at places."""
    check_field(field)
    check_poly(field, poly)
    check_places(field, places)
    return tuple([evaluated(field, poly, place) for place in places])


def vanishing(field, places):
    """The product of x - b over all places b."""
    whole = (1,)
    for place in places:
        whole = multiplied(field, whole, (-place % field, 1))
    return whole


def parts_of(field, places):
    """For each place the product of x - b over all other places b."""
    whole = vanishing(field, places)
    return [without_root(field, whole, place) for place in places]


def without_root(field, whole, place):
    """The poly that times x - place is the whole one, which is 0 at the place."""
    numbers = []
    carried = 0
    for x in reversed(whole):
        carried = (carried * place + x) % field
        numbers.append(carried)
    return tuple(reversed(numbers[:-1]))


def units_of(field, places, parts):
    """For each place a one over the product of a - b over all other places b: the value there of its part."""
    return [inverse(field, evaluated(field, part, place)) for place, part in zip(places, parts)]


def interpolated(field, places, values):
    """The poly of degree below the number of the places with these values there."""
    parts = parts_of(field, places)
    total = ()
    for part, unit, value in zip(parts, units_of(field, places, parts), values):
        total = added(field, total, scaled(field, part, unit * value % field))
    return total


def through(field, points):
    """The poly of degree below the number of the points that goes through them."""
    check_field(field)
    check_points(field, points)
    return interpolated(field, [place for place, value in points], [value for place, value in points])


def weights(field, places, goal):
    """What makes of the values at the places the value at the goal."""
    check_field(field)
    check_places(field, places)
    check_number(field, goal)
    parts = parts_of(field, places)
    units = units_of(field, places, parts)
    return tuple([evaluated(field, part, goal) * unit % field for part, unit in zip(parts, units)])


def check_rows(field, places, degree):
    """The checks of places and a degree that are known to be right."""
    rows = []
    row = units_of(field, places, parts_of(field, places))
    for _ in range(len(places) - degree - 1):
        rows.append(tuple(row))
        row = [x * place % field for x, place in zip(row, places)]
    return tuple(rows)


def checks(field, places, degree):
    """The vectors with the sum 0 exactly for values of polys of at most this degree."""
    check_field(field)
    check_places(field, places)
    check_integer(degree, -1, MAX_DEGREE)
    return check_rows(field, places, degree)


def hiding_poly(field, places):
    """The product of (b - x) / b over the places b: that of x - b, divided by its value at 0."""
    whole = vanishing(field, places)
    return tuple(scaled(field, whole, inverse(field, whole[0])))


def hiding(field, places):
    """The poly that is 1 at 0, and 0 at the places."""
    check_field(field)
    check_hidden_places(field, places)
    return hiding_poly(field, places)


def hidden(field, poly, places, goal):
    """The poly with the value `goal` at 0, and with the values of this one at the places."""
    check_field(field)
    check_poly(field, poly)
    check_hidden_places(field, places)
    check_number(field, goal)
    change = (goal - evaluated(field, poly, 0)) % field
    return added(field, poly, scaled(field, hiding_poly(field, places), change))
