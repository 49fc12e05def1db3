"""What the houses of a talk are given, and which of them a foe leads."""

from evencoins.base.field import are_numbers, is_ascending
from evencoins.errors import InvalidCoins, InvalidInputs, InvalidLot
from evencoins.plan.circuits import are_inputs
from evencoins.talk.halls import is_house, needed_coins


def check_inputs(hall, circuit, inputs):
    """Refuse what has not a number for each input."""
    if not are_inputs(hall.field, circuit, inputs):
        raise InvalidInputs("not a number for each input of the circuit")


def are_coins(hall, circuit, houses, value):
    """Whether the value is a dict from just these houses to as many numbers as each needs."""
    if not isinstance(value, dict) or len(value) != len(houses):
        return False
    for house, coins in value.items():
        if not is_house(hall, house) or house not in houses or not are_numbers(hall.field, coins):
            return False
        if len(coins) != needed_coins(hall, circuit, house):
            return False
    return True


def check_all_coins(hall, circuit, houses, coins):
    """Refuse what are not the coins of these houses."""
    if not are_coins(hall, circuit, houses, coins):
        raise InvalidCoins("not just as many coins for each house as it needs")


def is_foe(hall, lot, without):
    """Whether the value is a lot, which can have one house more if the bound is left out."""
    most = hall.most + 1 if without == "bound" else hall.most
    return is_ascending(lot, 1, hall.houses) and len(lot) <= most


def check_foe(hall, lot, without):
    """Refuse what is no lot."""
    if not is_foe(hall, lot, without):
        raise InvalidLot("not a lot of the hall")


def free_of(hall, lot):
    """The ascending tuple of the houses that are not in the lot."""
    return tuple([house for house in hall.places if house not in lot])
