"""Squares: polys in two letters that stay the same if the letters are exchanged."""

from evencoins.base.field import are_numbers, check_field, check_integer, check_number, is_ascending, is_integer
from evencoins.base.field import rows_count
from evencoins.base.polys import evaluated, hiding_poly, interpolated, padded
from evencoins.errors import InvalidCoins, InvalidLot, InvalidOperation, InvalidTable

MAX_MOST = 4
MAX_PLACE = 9


def last_place(field):
    """The greatest place: 9, but below the field."""
    return min(MAX_PLACE, field - 1)


def check_place(field, place):
    """Refuse what is no place."""
    check_integer(place, 1, last_place(field))


def check_most(most):
    """Refuse what is no degree of squares."""
    check_integer(most, 0, MAX_MOST)


def coins_count(most):
    """How many coins a square has."""
    return most * (most + 3) // 2


def is_square_of(field, value):
    """Whether the value is a square of any degree."""
    if not isinstance(value, tuple) or not 1 <= len(value) <= MAX_MOST + 1:
        return False
    if not all([are_numbers(field, row) and len(row) == len(value) for row in value]):
        return False
    sides = range(len(value))
    return all([value[a][b] == value[b][a] for a in sides for b in sides])


def is_square(field, most, value):
    """Whether the value is a square of this degree."""
    check_field(field)
    check_most(most)
    return is_square_of(field, value) and len(value) == most + 1


def is_row(field, most, value):
    """Whether the value is a tuple of as many numbers as rows of this degree have."""
    check_field(field)
    check_most(most)
    return are_numbers(field, value) and len(value) == most + 1


def check_square(field, square):
    """Refuse what is no square."""
    if not is_square_of(field, square):
        raise InvalidTable("not a square")


def check_row(fit):
    """Refuse what is no row, or no row of the same length."""
    if not fit:
        raise InvalidTable("not a row")


def check_coins(field, coins):
    """Refuse what is no tuple of numbers."""
    if not are_numbers(field, coins):
        raise InvalidCoins("not coins")


def check_coins_count(coins, most):
    """Refuse coins of another degree."""
    if len(coins) != coins_count(most):
        raise InvalidCoins("not as many coins as the degree needs")


def square(field, number, coins, most):
    """The square of the number with the coins."""
    check_field(field)
    check_number(field, number)
    check_coins(field, coins)
    check_most(most)
    check_coins_count(coins, most)
    return square_with(number, coins, most)


def square_with(number, coins, most):
    """The square of parts that are known to be right."""
    numbers = (number,) + coins
    table = [[0] * (most + 1) for _ in range(most + 1)]
    k = 0
    for a in range(most + 1):
        for b in range(a, most + 1):
            table[a][b] = numbers[k]
            table[b][a] = numbers[k]
            k += 1
    return tuple([tuple(row) for row in table])


def row_at(field, table, place):
    """The row of a place, in a square that is known to be one."""
    return tuple([evaluated(field, row, place) for row in table])


def row_of(field, square, place):
    """The row of the place."""
    check_field(field)
    check_square(field, square)
    check_place(field, place)
    return row_at(field, square, place)


def share_of(field, square, place):
    """The share of the place: the first number of its row."""
    return row_of(field, square, place)[0]


def do_meet(field, place, row, other, row2):
    """Whether the rows of two places have the same value at one another's place."""
    check_field(field)
    check_place(field, place)
    check_row(are_numbers(field, row) and 1 <= len(row) <= MAX_MOST + 1)
    check_place(field, other)
    check_row(are_numbers(field, row2) and len(row2) == len(row))
    return evaluated(field, row, other) == evaluated(field, row2, place)


def are_rows(field, value):
    """Whether the value is a dict from places to equally long rows."""
    if not isinstance(value, dict) or value == {}:
        return False
    if not all([is_integer(place, 1, last_place(field)) for place in value]):
        return False
    rows = list(value.values())
    if not all([are_numbers(field, row) and 1 <= len(row) <= MAX_MOST + 1 for row in rows]):
        return False
    return all([len(row) == len(rows[0]) for row in rows])


def all_meet(field, rows):
    """Whether all rows meet, two by two."""
    places = sorted(rows)
    pairs = [(place, other) for place in places for other in places if place < other]
    return all([evaluated(field, rows[i], j) == evaluated(field, rows[j], i) for i, j in pairs])


def square_of(field, rows):
    """The only square with all these rows, or None."""
    check_field(field)
    check_row(are_rows(field, rows))
    places = sorted(rows)
    size = len(rows[places[0]])
    if len(places) < size:
        raise InvalidOperation("too few rows tell a square")
    if not all_meet(field, rows):
        return None
    chosen = places[:size]
    columns = [interpolated(field, chosen, [rows[place][b] for place in chosen]) for b in range(size)]
    return tuple([padded(column, size) for column in columns])


def square_coins_behind(field, lot, coins, change, most):
    """The coins for a number that is so much more, with which the lot has the same rows."""
    letters = padded(hiding_poly(field, lot), most + 1)
    pairs = [(a, b) for a in range(most + 1) for b in range(a, most + 1)]
    return tuple([(coin + change * letters[a] * letters[b]) % field for coin, (a, b) in zip(coins, pairs[1:])])


def changed_square(field, lot, coins, number, other, most):
    """The coins of the other number with which the lot has the same rows."""
    check_field(field)
    if not is_ascending(lot, 1, last_place(field)):
        raise InvalidLot("not a lot")
    check_coins(field, coins)
    check_number(field, number)
    check_number(field, other)
    check_most(most)
    check_coins_count(coins, most)
    if len(lot) > most:
        raise InvalidLot("too many places in the lot")
    return square_coins_behind(field, lot, coins, other - number, most)


def hidden_count(field, most, many):
    """How many squares of a number have told rows at so many places."""
    check_field(field)
    check_most(most)
    check_integer(many, 0, most)
    return rows_count(field, coins_count(most - many))
