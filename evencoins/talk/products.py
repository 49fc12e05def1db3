"""Products of shares: own ones, the new shares, syndromes and the errors that they tell."""

from evencoins.base.field import are_numbers, check_integer, is_integer
from evencoins.errors import InvalidOperation, InvalidWord
from evencoins.talk.halls import check_hall, check_talk, is_house


def check_numbers(hall, word, many):
    """Refuse what is no tuple of so many numbers."""
    if not are_numbers(hall.field, word) or len(word) != many:
        raise InvalidWord("not so many numbers")


def check_lying(hall):
    """Refuse a hall in which houses only look."""
    if hall.kind == "look":
        raise InvalidOperation("a hall in which nobody lies")


def product_gates(circuit, level):
    """The gates of a level with what they look at."""
    return [circuit.gates[index] for index in circuit.levels[level]]


def are_shares(hall, circuit, level, value):
    """Whether the value is a dict from gates, all factors of the level among them, to numbers."""
    if not isinstance(value, dict) or not are_numbers(hall.field, tuple(value.values())):
        return False
    if not all([is_integer(gate, 0, len(circuit.gates) - 1) for gate in value]):
        return False
    return all([one in value and other in value for word, one, other in product_gates(circuit, level)])


def own_products(hall, circuit, level, shares):
    """The products of the own shares of the factors of a level."""
    return tuple([shares[one] * shares[other] % hall.field for word, one, other in product_gates(circuit, level)])


def local_products(hall, circuit, level, shares):
    """The tuple of the own products for the gates of the level with this index."""
    check_talk(hall, circuit)
    check_integer(level, 0, len(circuit.levels) - 1)
    if not are_shares(hall, circuit, level, shares):
        raise InvalidOperation("not a dict from gates to shares, with all factors")
    return own_products(hall, circuit, level, shares)


def syndromes_of(hall, dealt):
    """The shares of the syndromes of a dealt word."""
    check_hall(hall)
    check_numbers(hall, dealt, hall.houses)
    check_lying(hall)
    return hall.gauge.syndromes_of(dealt)


def errors_told(hall, told):
    """The dict from places to errors that have these syndromes."""
    check_hall(hall)
    check_numbers(hall, told, hall.houses - 2 * hall.most - 1)
    check_lying(hall)
    return hall.gauge.errors_with(told, hall.most)


def are_errors(hall, value):
    """Whether the value is a dict from no more houses than may be led to numbers other than 0."""
    if not isinstance(value, dict) or len(value) > hall.most:
        return False
    return all([is_house(hall, place) and is_integer(value[place], 1, hall.field - 1) for place in value])


def product_share(hall, dealt, errors):
    """The new share: the weighted sum of the dealt word, with the errors taken off."""
    check_hall(hall)
    check_numbers(hall, dealt, hall.houses)
    if not are_errors(hall, errors):
        raise InvalidOperation("not a dict of errors")
    return hall.gauge.product_of(dealt, errors)


def opened_number(hall, word):
    """The number that the shares of all houses open."""
    check_hall(hall)
    check_numbers(hall, word, hall.houses)
    return hall.gauge.first_number(word) if hall.kind == "look" else hall.gauge.main_number(word, hall.most)
