"""Sharing a number by a poly in one letter: its values at the houses are the shares."""

from evencoins.base.field import are_numbers, check_field, check_integer, check_number, is_ascending
from evencoins.base.field import rows_count, sum_of_products
from evencoins.base.polys import evaluated, hiding_poly, interpolated, is_poly, padded, trimmed
from evencoins.base.tables import solution_or_bar
from evencoins.errors import InvalidCoins, InvalidLot, InvalidWord, Refused

MAX_HOUSES = 9
MAX_FACTORS = 10


def check_coins(field, coins, most):
    """Refuse what is no tuple of at most so many numbers."""
    if not are_numbers(field, coins) or len(coins) > most:
        raise InvalidCoins("not coins")


def check_lot(field, lot):
    """Refuse what is no ascending tuple of at most 9 places other than 0."""
    if not is_ascending(lot, 1, field - 1) or len(lot) > MAX_HOUSES:
        raise InvalidLot("not a lot")


def check_told(field, told, most):
    """Refuse what is no tuple of 1 to so many numbers."""
    if not are_numbers(field, told) or not 1 <= len(told) <= most:
        raise InvalidWord("not a row of numbers")


def check_shares(field, shares, most):
    """Refuse what are no shares by a poly of at most this degree."""
    check_field(field)
    check_told(field, shares, min(MAX_HOUSES, field - 1))
    check_integer(most, 0, len(shares) - 1)


def dealt(field, houses, number, coins):
    """The shares of a number, one for each house."""
    check_field(field)
    check_integer(houses, 1, min(MAX_HOUSES, field - 1))
    check_number(field, number)
    check_coins(field, coins, houses - 1)
    return tuple([evaluated(field, (number,) + coins, house) for house in range(1, houses + 1)])


def first_poly(field, shares, most):
    """The poly through the shares of the first houses, one more than the degree."""
    return interpolated(field, tuple(range(1, most + 2)), shares[:most + 1])


def opened(field, shares, most):
    """The number at 0 of the poly through the first shares."""
    check_shares(field, shares, most)
    return evaluated(field, first_poly(field, shares, most), 0)


def paper_of(field, shares, most):
    """The paper for shares that are known to be right."""
    poly = first_poly(field, shares, most)
    for k in range(len(shares)):
        if evaluated(field, poly, k + 1) != shares[k]:
            return "apart", k + 1
    numbers = padded(poly, most + 1)
    return "coins", numbers[0], numbers[1:]


def sharing_paper(field, shares, most):
    """Either the number and the coins, or the least house that is apart."""
    check_shares(field, shares, most)
    return paper_of(field, shares, most)


def is_sharing_paper(field, shares, most, value):
    """Whether the value is that."""
    check_shares(field, shares, most)
    paper = paper_of(field, shares, most)
    if value != paper:
        return False
    # Equal is not enough: True is equal to 1. The house that is apart is never the first one.
    return paper[0] == "apart" or are_numbers(field, value[1:2] + value[2])


def told_count(field, most, lot, told, number):
    """How many rows of coins give the lot the told shares of the number."""
    check_field(field)
    check_integer(most, 0, MAX_HOUSES - 1)
    check_lot(field, lot)
    if not are_numbers(field, told) or len(told) != len(lot):
        raise InvalidWord("not a share for each of the lot")
    check_number(field, number)
    if len(lot) <= most:
        return rows_count(field, most - len(lot))
    return 1 if len(interpolated(field, (0,) + lot, (number,) + told)) <= most + 1 else 0


def coins_behind(field, lot, coins, change):
    """The coins for a number that is so much more, with which the lot has the same shares."""
    letters = padded(hiding_poly(field, lot)[1:], len(coins))
    return tuple([(coin + change * x) % field for coin, x in zip(coins, letters)])


def changed_coins(field, lot, coins, number, other):
    """The coins of the other number that give the lot the same shares."""
    check_field(field)
    check_lot(field, lot)
    check_coins(field, coins, MAX_HOUSES - 1)
    check_number(field, number)
    check_number(field, other)
    if len(lot) > len(coins):
        raise Refused(("wide",))
    return coins_behind(field, lot, coins, other - number)


def check_sum(field, most, lot, factors):
    """Refuse what is no lot with factors of the values at 0 and so on."""
    check_field(field)
    check_integer(most, 0, MAX_HOUSES - 1)
    check_lot(field, lot)
    check_told(field, factors, min(MAX_FACTORS, field))


def power_rows(field, most, places):
    """For each power up to the most the row of the powers of all places."""
    rows = [(1,) * len(places)]
    for _ in range(most):
        rows.append(tuple([x * place % field for x, place in zip(rows[-1], places)]))
    return rows


def sums_of(field, most, factors):
    """What the factors make of each power up to the most."""
    rows = power_rows(field, most, tuple(range(len(factors))))
    return tuple([sum_of_products(field, factors, row) for row in rows])


def sum_paper(field, most, lot, factors):
    """Either how the lot's shares make the sum, or a poly that they do not see and that makes it 1."""
    check_sum(field, most, lot, factors)
    # A column of zeros, which nothing needs, makes it a table for an empty lot too.
    table = tuple([row + (0,) for row in power_rows(field, most, lot)])
    word, vector = solution_or_bar(field, table, sums_of(field, most, factors))
    return ("told", vector[:-1]) if word == "solved" else ("open", trimmed(vector))


def is_told_paper(field, most, lot, factors, value):
    """Whether the value has a number for each of the lot, with which its shares make the sum."""
    if not are_numbers(field, value) or len(value) != len(lot):
        return False
    made = [sum_of_products(field, value, row) for row in power_rows(field, most, lot)]
    return tuple(made) == sums_of(field, most, factors)


def is_open_paper(field, most, lot, factors, value):
    """Whether the value is a poly that is 0 at the lot and makes the sum 1."""
    if not is_poly(field, value) or len(value) > most + 1:
        return False
    seen = [evaluated(field, value, place) for place in lot]
    made = [evaluated(field, value, place) for place in range(len(factors))]
    return all([x == 0 for x in seen]) and sum_of_products(field, factors, made) == 1


def is_sum_paper(field, most, lot, factors, value):
    """Whether the value shows that the lot is told the sum, or that it is not."""
    check_sum(field, most, lot, factors)
    if not isinstance(value, tuple) or len(value) != 2:
        return False
    if value[0] == "told":
        return is_told_paper(field, most, lot, factors, value[1])
    return value[0] == "open" and is_open_paper(field, most, lot, factors, value[1])
