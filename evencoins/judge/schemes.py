"""Talks as rows: whether what a lot hears is even, or parts secrets that are alike to it."""

from itertools import combinations

from evencoins.base.field import are_numbers, check_field, check_integer, inverse, is_ascending, is_integer
from evencoins.base.field import rows_count, sum_of_products
from evencoins.base.tables import columns_of, eliminated, kernel_rows, solution_or_bar
from evencoins.errors import InvalidCoins, InvalidInputs, InvalidLot, InvalidOperation, InvalidScheme
from evencoins.judge.shares import all_letters, all_outputs, coin_starts
from evencoins.talk.halls import check_talk

MAX_SECRETS = 8
MAX_COINS = 24
MAX_ROWS = 60
MAX_OUTPUTS = 8
MOST_HOUSES = 9


def are_owners(houses, value, least, most):
    """Whether the value is a tuple of so many houses."""
    if not isinstance(value, tuple) or not least <= len(value) <= most:
        return False
    return all([is_integer(house, 1, houses) for house in value])


def are_told(field, houses, value, width, most):
    """Whether the value is a tuple of at most so many pairs of a house and a row of so many numbers."""
    if not isinstance(value, tuple) or len(value) > most:
        return False
    for pair in value:
        if not isinstance(pair, tuple) or len(pair) != 2 or not is_integer(pair[0], 1, houses):
            return False
        if not are_numbers(field, pair[1]) or len(pair[1]) != width:
            return False
    return True


class Scheme:
    """A talk whose letters are sums of secrets and coins, each times a number. It never changes."""

    def __init__(self, field, houses, owners, coins, letters, outputs):
        check_field(field)
        check_integer(houses, 1, MOST_HOUSES)
        if not are_owners(houses, owners, 1, MAX_SECRETS) or not are_owners(houses, coins, 0, MAX_COINS):
            raise InvalidScheme("not the owners of secrets and coins")
        if not are_told(field, houses, letters, 1 + len(owners) + len(coins), MAX_ROWS):
            raise InvalidScheme("not letters")
        if not are_told(field, houses, outputs, 1 + len(owners), MAX_OUTPUTS):
            raise InvalidScheme("not outputs")
        self._field = field
        self._houses = houses
        self._owners = owners
        self._coins = coins
        self._letters = letters
        self._outputs = outputs

    @property
    def field(self):
        """The field."""
        return self._field

    @property
    def houses(self):
        """How many houses there are."""
        return self._houses

    @property
    def owners(self):
        """The owners of the secrets."""
        return self._owners

    @property
    def coins(self):
        """The owners of the coins."""
        return self._coins

    @property
    def letters(self):
        """The pairs of a house and a row: what it hears."""
        return self._letters

    @property
    def outputs(self):
        """The pairs of a house and a row without coins: what it is to be told."""
        return self._outputs

    def __eq__(self, other):
        if not isinstance(other, Scheme) or self._field != other._field or self._houses != other._houses:
            return False
        if self._owners != other._owners or self._coins != other._coins:
            return False
        return self._letters == other._letters and self._outputs == other._outputs


def check_scheme(scheme):
    """Refuse what is no scheme."""
    if not isinstance(scheme, Scheme):
        raise InvalidScheme("not a scheme")


def check_any_lot(scheme, lot):
    """Refuse what is no scheme with an ascending tuple of its houses."""
    check_scheme(scheme)
    if not is_ascending(lot, 1, scheme.houses):
        raise InvalidLot("not an ascending tuple of houses")


def check_secrets(scheme, numbers):
    """Refuse what has not a number for each secret."""
    if not are_numbers(scheme.field, numbers) or len(numbers) != len(scheme.owners):
        raise InvalidInputs("not a number for each secret")


def own_places(owners, lot):
    """The places of what the houses of a lot own."""
    return [place for place, house in enumerate(owners) if house in lot]


def other_places(owners, lot):
    """The places of what other houses own."""
    return [place for place, house in enumerate(owners) if house not in lot]


def rows_to(told, lot):
    """The rows of what the houses of a lot hear, or are to be told."""
    return [row for house, row in told if house in lot]


def value_of_row(field, row, numbers):
    """The first number of a row, and the sum of the others times the numbers."""
    return (row[0] + sum_of_products(field, row[1:], numbers)) % field


def view(scheme, lot, numbers, coins):
    """The own secrets, own coins and letters of a lot."""
    check_any_lot(scheme, lot)
    check_secrets(scheme, numbers)
    if not are_numbers(scheme.field, coins) or len(coins) != len(scheme.coins):
        raise InvalidCoins("not as many coins as there are")
    own = [numbers[place] for place in own_places(scheme.owners, lot)]
    drawn = [coins[place] for place in own_places(scheme.coins, lot)]
    heard = [value_of_row(scheme.field, row, numbers + coins) for row in rows_to(scheme.letters, lot)]
    return tuple(own + drawn + heard)


def due(scheme, house, numbers):
    """The outputs to a house."""
    check_scheme(scheme)
    check_integer(house, 1, scheme.houses)
    check_secrets(scheme, numbers)
    return tuple([value_of_row(scheme.field, row, numbers) for row in rows_to(scheme.outputs, (house,))])


def unit_row(many, place):
    """A row of so many numbers: 1 at the place and 0 elsewhere."""
    return (0,) * place + (1,) + (0,) * (many - place - 1)


def basis_of(scheme, lot):
    """The moves of which all moves for a lot are made."""
    many = len(scheme.owners)
    fixed = [unit_row(many, place) for place in own_places(scheme.owners, lot)]
    outputs = [row[1:] for row in rows_to(scheme.outputs, lot)]
    return kernel_rows(scheme.field, tuple([(0,) * many] + fixed + outputs))


def parts_for(scheme, lot):
    """For each letter to a lot the rows of its secrets, and of the coins of others."""
    many = 1 + len(scheme.owners)
    others = [many + place for place in other_places(scheme.coins, lot)]
    return [(row[1:many], tuple([row[place] for place in others])) for row in rows_to(scheme.letters, lot)]


def moved_letters(scheme, parts, basis):
    """For each letter its part of the coins of others, and by how much each move changes it."""
    return [coins + tuple([sum_of_products(scheme.field, secrets, move) for move in basis])
            for secrets, coins in parts]


def shifts_or_none(scheme, lot, basis):
    """The shifts for all moves of a basis, or None if some move has none."""
    places = other_places(scheme.coins, lot)
    width = len(places)
    rows, found = eliminated(scheme.field, moved_letters(scheme, parts_for(scheme, lot), basis), width)
    if any([x != 0 for row in rows[len(found):] for x in row[width:]]):
        return None
    shifts = []
    for index in range(len(basis)):
        shift = [0] * len(scheme.coins)
        for row, column in zip(rows, found):
            shift[places[column]] = -row[width + index] % scheme.field
        shifts.append(tuple(shift))
    return tuple(shifts)


def parted_by(scheme, lot, basis):
    """A move, and a sum of letters that has no coins of others and is 1 more with it, if there are any."""
    field = scheme.field
    rows = moved_letters(scheme, parts_for(scheme, lot), basis)
    many = len(rows)
    width = len(other_places(scheme.coins, lot))
    # Each row keeps of which ones it is the sum.
    traced = [row + unit_row(many, place) for place, row in enumerate(rows)]
    rows, found = eliminated(field, traced, width)
    for row in rows[len(found):]:
        for index, move in enumerate(basis):
            if row[width + index] != 0:
                factor = inverse(field, row[width + index])
                return move, tuple([factor * x % field for x in row[width + len(basis):]])
    return None


def parting(scheme, lot):
    """Either a shift for each move of the basis, or a move and a sum that parts alike secrets."""
    check_any_lot(scheme, lot)
    basis = basis_of(scheme, lot)
    shifts = shifts_or_none(scheme, lot, basis)
    if shifts is not None:
        return "even", shifts
    return ("parted",) + parted_by(scheme, lot, basis)


def is_shift(scheme, lot, move, value):
    """Whether the value is a row of coins with which a move leaves the lot's letters as they are."""
    if not are_numbers(scheme.field, value) or len(value) != len(scheme.coins):
        return False
    if any([value[place] != 0 for place in own_places(scheme.coins, lot)]):
        return False
    return all([sum_of_products(scheme.field, row[1:], move + value) == 0 for row in rows_to(scheme.letters, lot)])


def is_move(scheme, lot, value):
    """Whether the value is a move for a lot."""
    if not are_numbers(scheme.field, value) or len(value) != len(scheme.owners):
        return False
    if any([value[place] != 0 for place in own_places(scheme.owners, lot)]):
        return False
    return all([sum_of_products(scheme.field, row[1:], value) == 0 for row in rows_to(scheme.outputs, lot)])


def is_parting_sum(scheme, lot, move, value):
    """Whether the value has a number for each letter, and makes a sum without coins of others, 1 more with the move."""
    parts = parts_for(scheme, lot)
    if not are_numbers(scheme.field, value) or len(value) != len(parts):
        return False
    rows = moved_letters(scheme, parts, (move,))
    sums = [sum_of_products(scheme.field, value, column) for column in zip(*rows)]
    return sums != [] and sums[-1] == 1 and not any([x != 0 for x in sums[:-1]])


def is_parting(scheme, lot, value):
    """Whether the value shows that the scheme is even for a lot, or that it is not."""
    check_any_lot(scheme, lot)
    if not isinstance(value, tuple) or not 2 <= len(value) <= 3:
        return False
    if value[0] == "even" and len(value) == 2:
        basis = basis_of(scheme, lot)
        if not isinstance(value[1], tuple) or len(value[1]) != len(basis):
            return False
        return all([is_shift(scheme, lot, move, shift) for move, shift in zip(basis, value[1])])
    if value[0] != "parted" or len(value) != 3:
        return False
    return is_move(scheme, lot, value[1]) and is_parting_sum(scheme, lot, value[1], value[2])


def least_parted(scheme, most):
    """The first lot of at most so many houses for which the scheme is not even, or None."""
    check_scheme(scheme)
    check_integer(most, 0, scheme.houses)
    for size in range(most + 1):
        for lot in combinations(range(1, scheme.houses + 1), size):
            if shifts_or_none(scheme, lot, basis_of(scheme, lot)) is None:
                return lot
    return None


def rows_behind(scheme, lot):
    """From how many rows of coins each view of a lot comes that comes at all."""
    check_any_lot(scheme, lot)
    coins = [part for secrets, part in parts_for(scheme, lot)]
    many = len(other_places(scheme.coins, lot))
    rows, found = eliminated(scheme.field, coins, many)
    return rows_count(scheme.field, many - len(found))


def view_rows(scheme, house):
    """What a house sees, as rows of all secrets and coins: each with its first number ahead."""
    many = len(scheme.owners) + len(scheme.coins)
    places = own_places(scheme.owners + scheme.coins, (house,))
    return [(0,) + unit_row(many, place) for place in places] + rows_to(scheme.letters, (house,))


def check_output(scheme, index):
    """Refuse what is no scheme with the index of an output."""
    check_scheme(scheme)
    check_integer(index, 0, len(scheme.outputs) - 1)


def recipe(scheme, index):
    """Either a number and factors that make the output of its house's view, or a change that the house does not see."""
    check_output(scheme, index)
    field = scheme.field
    house, row = scheme.outputs[index]
    seen = view_rows(scheme, house)
    # A row of zeros, which nothing needs, makes columns of an empty view, too.
    many = 1 + len(scheme.owners) + len(scheme.coins)
    columns = columns_of(seen + [(0,) * many])[1:]
    word, vector = solution_or_bar(field, columns, row[1:] + (0,) * len(scheme.coins))
    if word == "barred":
        return "hidden", vector[:len(scheme.owners)], vector[len(scheme.owners):]
    factors = vector[:-1]
    first = sum_of_products(field, factors, [part[0] for part in seen])
    return "told", (row[0] - first) % field, factors


def is_told_recipe(scheme, house, row, number, factors):
    """Whether a number and factors make an output of a house's view."""
    seen = view_rows(scheme, house)
    if not is_integer(number, 0, scheme.field - 1) or not are_numbers(scheme.field, factors):
        return False
    if len(factors) != len(seen):
        return False
    goal = row + (0,) * len(scheme.coins)
    sums = [sum_of_products(scheme.field, factors, [part[place] for part in seen]) for place in range(len(goal))]
    return (sums[0] + number) % scheme.field == goal[0] and tuple(sums[1:]) == goal[1:]


def is_hidden_recipe(scheme, house, row, secrets, coins):
    """Whether rows of secrets and of coins, added, leave a house's view as it is and make an output 1 more."""
    if not are_numbers(scheme.field, secrets) or len(secrets) != len(scheme.owners):
        return False
    if not are_numbers(scheme.field, coins) or len(coins) != len(scheme.coins):
        return False
    seen = [sum_of_products(scheme.field, part[1:], secrets + coins) for part in view_rows(scheme, house)]
    return not any([x != 0 for x in seen]) and sum_of_products(scheme.field, row[1:], secrets) == 1


def is_recipe(scheme, index, value):
    """Whether the value shows that an output is told, or that it is hidden."""
    check_output(scheme, index)
    if not isinstance(value, tuple) or len(value) != 3:
        return False
    house, row = scheme.outputs[index]
    if value[0] == "told":
        return is_told_recipe(scheme, house, row, value[1], value[2])
    return value[0] == "hidden" and is_hidden_recipe(scheme, house, row, value[1], value[2])


def scheme_of(hall, circuit):
    """The talk of a hall in which houses look, of a circuit without products."""
    check_talk(hall, circuit)
    if hall.kind != "look" or circuit.levels != () or circuit.inputs == ():
        raise InvalidOperation("houses that lie, products, or no inputs")
    starts, coins = coin_starts(hall, circuit)
    letters = all_letters(hall, circuit)
    return Scheme(hall.field, hall.houses, circuit.houses, coins, letters, all_outputs(hall, circuit))
