"""Numbers that hang on a hall alone, with which its houses reckon again and again."""

from evencoins.base.field import inverse, sum_of_products
from evencoins.base.polys import evaluated_at_all


def unit_table(field, last):
    """The dict from all differences of two places up to the last one to what makes 1 with them."""
    units = {1: 1}
    for k in range(2, last + 1):
        # p is k times p // k, and p % k more: so k undoes -(p // k) times what undoes p % k.
        units[k] = -(field // k) * units[field % k] % field
    for k in range(1, last + 1):
        units[-k] = field - units[k]
    return units


def factors_at(field, units, places, goal):
    """What makes of the values at the places the value at the goal."""
    found = []
    for place in places:
        factor = 1
        for other in places:
            if other != place:
                factor = factor * (goal - other) * units[place - other] % field
        found.append(factor)
    return tuple(found)


class Fit:
    """A poly told by the entries of a word at some places, the base: what it is at 0, and at other places.

    It has as low a degree as the base tells. `units` has what makes 1 with the differences of all these places.
    """

    def __init__(self, field, units, base, others):
        self._order = field
        self._base = tuple([place - 1 for place in base])
        self._zero = factors_at(field, units, base, 0)
        self._rows = {place - 1: factors_at(field, units, base, place) for place in others}

    def number_in(self, word):
        """The poly's number at 0."""
        return sum_of_products(self._order, self._zero, [word[k] for k in self._base])

    def value_in(self, word, place):
        """The poly's value at one of the other places."""
        return sum_of_products(self._order, self._rows[place - 1], [word[k] for k in self._base])

    def number_among(self, word, most):
        """The poly's number at 0, but None if more than so many of the entries at the other places are not its own."""
        values = [word[k] for k in self._base]
        left = most
        for k, row in self._rows.items():
            if sum_of_products(self._order, row, values) != word[k]:
                left -= 1
                if left < 0:
                    return None
        return sum_of_products(self._order, self._zero, values)


def fit_at(field, units, places, degree):
    """The fit of polys of at most this degree at the places: the first ones are the base."""
    return Fit(field, units, places[:degree + 1], places[degree + 1:])


def block_fits(field, units, places, most):
    """Fits of polys of the degree `most` with bases that have no place in common, one more than may be wrong.

    So one of them has no wrong entry.
    """
    width = most + 1
    found = []
    for first in range(0, width * width, width):
        base = places[first:first + width]
        found.append(Fit(field, units, base, [place for place in places if place not in base]))
    return tuple(found)


def located(field, places, told, many):
    """The dict from at most so many places to numbers v, told[m] being the sum of v times place ** m; None if none.

    `many` is at least 1. There is at most one such dict if at least twice as many sums are told. What is told, less
    the place times what is told ahead of it, has no part of this place: so places are taken off, one by one.
    """
    if not any([x != 0 for x in told]):
        return {}
    if many == 1 and told[0] == 0:
        return None
    if many == 1:
        place = told[1] * inverse(field, told[0]) % field
        fit = all([(place * x - y) % field == 0 for x, y in zip(told, told[1:])])
        return {place: told[0]} if fit and place in places else None
    for place in places:
        rest = [(y - place * x) % field for x, y in zip(told, told[1:])]
        found = located(field, places, rest, many - 1)
        if found is not None and place not in found:
            return with_place(field, place, told[0], found)
    return None


def with_place(field, place, total, found):
    """The numbers at all places, `found` having them times the difference to the place that was taken off."""
    numbers = {other: x * inverse(field, (other - place) % field) % field for other, x in found.items()}
    own = (total - sum(list(numbers.values()))) % field
    return {**numbers, place: own} if own != 0 else numbers


def is_smooth(field, word, degree):
    """Whether a word at the places from 1 on is that of a poly of at most this degree.

    It is if differences of differences, one time more than the degree tells, are all 0: each time the degree falls.
    """
    rest = word
    for _ in range(degree + 1):
        rest = [y - x for x, y in zip(rest, rest[1:])]
    return not any([x % field != 0 for x in rest])


class Gauge:
    """The numbers of one hall."""

    def __init__(self, field, houses, most, kind):
        places = tuple(range(1, houses + 1))
        units = unit_table(field, houses)
        self._order = field
        self._all = places
        self._width = most + 1
        self._powers = [(place, place * place) for place in places]
        self.units = units
        self.factors = factors_at(field, units, places, 0)
        if kind == "lie":
            self.openings = block_fits(field, units, places, most)
            self.checks = check_table(field, units, places, houses - 2 * most - 1)
        else:
            self.openings = (Fit(field, units, places[:most + 1], ()),)
            self.checks = ()
        self.spreads = tuple([spread_of(field, place, places) for place in places])

    def rows_of(self, number, coins):
        """The list of the rows of all houses of a square.

        Its degree is 1 or 2: in a hall that lies 4 t is below n.
        """
        field = self._order
        if len(coins) == 2:
            one, two = coins
            return [((number + one * x) % field, (one + two * x) % field) for x in self._all]
        one, two, three, four, five = coins
        return [((number + one * x + two * y) % field, (one + three * x + four * y) % field,
                 (two + four * x + five * y) % field) for x, y in self._powers]

    def point_of(self, row, place):
        """The value at the place of a row, in a hall that lies."""
        if self._width == 2:
            return (row[0] + row[1] * place) % self._order
        return (row[0] + row[1] * place + row[2] * place * place) % self._order

    def points_of(self, rows, place):
        """The tuple of the values at the place of all rows of a house, in a hall that lies."""
        field = self._order
        if self._width == 2:
            return tuple([(one + two * place) % field for one, two in rows])
        square = place * place
        return tuple([(one + two * place + three * square) % field for one, two, three in rows])

    def points_among(self, heard):
        """For each house the list of its points for the houses ahead of it, by the rows of all."""
        field = self._order
        if self._width == 2:
            return [[tuple([(one + two * place) % field for one, two in rows]) for place in range(1, house)]
                    for house, rows in enumerate(heard, start=1)]
        return [[self.points_of(rows, place) for place in range(1, house)] for house, rows in enumerate(heard, start=1)]

    def syndromes_of(self, dealt):
        """The tuple of the syndromes of a dealt word."""
        field = self._order
        return tuple([sum([x * y for x, y in zip(row, dealt)]) % field for row in self.checks])

    def product_of(self, dealt, errors):
        """The number that the weights make of a dealt word, with the errors taken off."""
        total = sum([x * y for x, y in zip(self.factors, dealt)])
        for place, error in errors.items():
            total -= self.factors[place - 1] * error
        return total % self._order

    def shares_of(self, number, coins):
        """The list of the shares of all houses of a poly with this number and these coins."""
        field = self._order
        if len(coins) == 1:
            one = coins[0]
            return [(number + one * x) % field for x in self._all]
        return evaluated_at_all(field, (number,) + coins, self._all)

    def first_number(self, word):
        """The number at 0 of the poly through the first entries, as many as tell it."""
        return self.openings[0].number_in(word)

    def main_number(self, word, most):
        """The number at 0 of the only poly of the degree `most` that has all entries but so many, or 0."""
        if is_smooth(self._order, word, most):
            return self.first_number(word)
        for fit in self.openings:
            number = fit.number_among(word, most)
            if number is not None:
                return number
        return 0

    def errors_with(self, told, most):
        """The ascending dict of the errors at no more than so many places that have these syndromes, {} if none."""
        found = located(self._order, self._all, told, most)
        if found is None:
            return {}
        return {place: found[place] * self.spreads[place - 1] % self._order for place in sorted(found)}


def spread_of(field, place, places):
    """The product of the place less each other one."""
    product = 1
    for other in places:
        if other != place:
            product = product * (place - other) % field
    return product


def check_table(field, units, places, many):
    """So many rows: what undoes the spread of each place, times the power of the place."""
    row = []
    for place in places:
        unit = 1
        for other in places:
            if other != place:
                unit = unit * units[place - other] % field
        row.append(unit)
    rows = []
    for _ in range(many):
        rows.append(tuple(row))
        row = [x * place % field for x, place in zip(row, places)]
    return tuple(rows)
