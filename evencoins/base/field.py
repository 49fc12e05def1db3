"""The field: the numbers modulo a prime, and vectors of them."""

from evencoins.errors import InvalidNumber, InvalidOperation, InvalidTable, Refused, TooMany

LEAST_FIELD = 5
MAX_FIELD = 997
MAX_POWER = 1000000
MAX_SIDE = 60
MOST_LISTED = 100000
# An integer up to 997 that is no prime is a multiple of one of these.
SMALL_PRIMES = (2, 3, 5, 7, 11, 13, 17, 19, 23, 29, 31)


def is_integer(value, least, most):
    """Whether the value is an integer from the least to the most one; True and False are none."""
    return isinstance(value, int) and value is not True and value is not False and least <= value <= most


def is_ascending(value, least, most):
    """Whether the value is an ascending tuple of such integers."""
    if not isinstance(value, tuple):
        return False
    ahead = least - 1
    for x in value:
        if not isinstance(x, int) or x is True or x is False or not ahead < x <= most:
            return False
        ahead = x
    return True


def is_field(value):
    """Whether the value is a prime from 5 to 997."""
    if not is_integer(value, LEAST_FIELD, MAX_FIELD):
        return False
    for prime in SMALL_PRIMES:
        if value % prime == 0:
            return value == prime
    return True


def is_number(field, value):
    """Whether the value is a number of the field."""
    check_field(field)
    return is_integer(value, 0, field - 1)


def are_numbers(field, value):
    """Whether the value is a tuple of numbers, of any length."""
    if not isinstance(value, tuple):
        return False
    for x in value:
        if not isinstance(x, int) or x is True or x is False or not 0 <= x < field:
            return False
    return True


def is_vector(field, value):
    """Whether the value is a tuple of at most 60 numbers."""
    return are_numbers(field, value) and len(value) <= MAX_SIDE


def check_integer(value, least, most):
    """Refuse what is no integer within the bounds."""
    if not is_integer(value, least, most):
        raise InvalidNumber(value)


def check_field(field):
    """Refuse what is no field."""
    if not is_field(field):
        raise InvalidNumber(field)


def check_number(field, number):
    """Refuse what is no number of the field."""
    check_integer(number, 0, field - 1)


def check_vector(field, vector):
    """Refuse what is no vector."""
    if not is_vector(field, vector):
        raise InvalidTable("not a vector")


def check_pair(field, one, other):
    """Refuse what is no field with two of its numbers."""
    check_field(field)
    check_number(field, one)
    check_number(field, other)


def plus(field, one, other):
    """The sum of two numbers."""
    check_pair(field, one, other)
    return (one + other) % field


def minus(field, one, other):
    """The difference of two numbers."""
    check_pair(field, one, other)
    return (one - other) % field


def times(field, one, other):
    """The product of two numbers."""
    check_pair(field, one, other)
    return one * other % field


def raised(field, number, many):
    """The power, by squares, so that a great exponent takes few steps."""
    result = 1
    square = number % field
    left = many
    while left > 0:
        if left % 2 == 1:
            result = result * square % field
        square = square * square % field
        left = left // 2
    return result


def inverse(field, number):
    """What makes 1 with a number other than 0: its power p - 2, as its power p - 1 is 1."""
    return raised(field, number, field - 2)


def undone(field, number):
    """What makes 1 with the number."""
    check_field(field)
    check_number(field, number)
    if number == 0:
        raise Refused(("zero",))
    return inverse(field, number)


def power(field, number, many):
    """The number to the power `many`; 1 for the power 0."""
    check_field(field)
    check_number(field, number)
    check_integer(many, 0, MAX_POWER)
    return raised(field, number, many)


def power_sum(field, many):
    """The sum of the powers `many` of all numbers."""
    check_field(field)
    check_integer(many, 0, MAX_POWER)
    return field - 1 if many > 0 and many % (field - 1) == 0 else 0


def rows_count(field, many):
    """How many rows of so many numbers there are."""
    count = 1
    for _ in range(many):
        count = count * field
    return count


def sum_of_products(field, one, other):
    """The sum of the products, place by place, of two equally long rows."""
    return sum([x * y for x, y in zip(one, other)]) % field


def weighted(field, weights, vector):
    """The weighted sum of the vector."""
    check_field(field)
    check_vector(field, weights)
    check_vector(field, vector)
    if len(weights) != len(vector):
        raise InvalidOperation("weights and vector are not equally long")
    return sum_of_products(field, weights, vector)


def vectors_count(field, weights, goal):
    """How many vectors have this weighted sum."""
    check_field(field)
    check_vector(field, weights)
    check_number(field, goal)
    if any([weight != 0 for weight in weights]):
        return rows_count(field, len(weights) - 1)
    return rows_count(field, len(weights)) if goal == 0 else 0


def heavy_places(weights):
    """The places with a weight other than 0."""
    return [place for place in range(len(weights)) if weights[place] != 0]


def all_vectors(field, many):
    """The ascending list of all vectors of so many numbers: halves, so that few of them are made on the way."""
    if many < 2:
        return [(x,) for x in range(field)] if many == 1 else [()]
    heads = all_vectors(field, many // 2)
    tails = all_vectors(field, many - many // 2)
    return [head + tail for head in heads for tail in tails]


def all_lacks(field, weights, goal):
    """For each vector, in ascending sequence, what its weighted sum lacks of the goal, not yet modulo p."""
    lacks = [goal]
    for weight in weights:
        parts = [weight * x for x in range(field)]
        lacks = [lack - part for lack in lacks for part in parts]
    return lacks


def solved_vectors(field, weights, last, goal):
    """The ascending list of the vectors with this weighted sum, `last` being the last place with a weight.

    What stands ahead of this place tells the number there; behind it all numbers do.
    """
    factor = inverse(field, weights[last])
    ends = [(lack * factor % field,) for lack in range(field)]
    lacks = all_lacks(field, weights[:last], goal)
    heads = [row + ends[lack % field] for row, lack in zip(all_vectors(field, last), lacks)]
    tails = all_vectors(field, len(weights) - last - 1)
    return [head + tail for head in heads for tail in tails]


def vectors_with(field, weights, goal):
    """The ascending tuple of all vectors that have this weighted sum."""
    check_field(field)
    check_vector(field, weights)
    check_number(field, goal)
    if rows_count(field, len(weights)) > MOST_LISTED:
        raise TooMany(MOST_LISTED)
    heavy = heavy_places(weights)
    if heavy:
        return tuple(solved_vectors(field, weights, heavy[-1], goal))
    return tuple(all_vectors(field, len(weights))) if goal == 0 else ()


def moved(field, weights, vector, goal):
    """The vector with this weighted sum that differs at the least place with a weight alone."""
    check_field(field)
    check_vector(field, weights)
    check_vector(field, vector)
    check_number(field, goal)
    if len(weights) != len(vector):
        raise InvalidOperation("weights and vector are not equally long")
    heavy = heavy_places(weights)
    if not heavy:
        return None
    at = heavy[0]
    lacking = goal - sum_of_products(field, weights, vector)
    number = (vector[at] + lacking * inverse(field, weights[at])) % field
    return vector[:at] + (number,) + vector[at + 1:]
