"""Kings: a wall from lines. In phases of two rounds all free houses come to hold one value."""

from evencoins.base.field import is_integer
from evencoins.errors import InvalidLies, InvalidWord
from evencoins.talk.halls import check_house, check_lie_hall, is_house
from evencoins.talk.letters import check_lot, is_plain, is_triple, spoken

MOST_VALUES = 9


def are_plain(value, least, most):
    """Whether the value is a tuple of so many plain values."""
    if not isinstance(value, tuple) or not least <= len(value) <= most:
        return False
    return all([is_plain(part) for part in value])


def check_values(value, least, most):
    """Refuse what is no tuple of so many plain values."""
    if not are_plain(value, least, most):
        raise InvalidWord("not so many plain values")


def is_round_key(hall, lot, last, value):
    """Whether the value is a round up to the last one, a house of the lot, and another house."""
    if not is_triple(value) or not is_integer(value[0], 1, last):
        return False
    if not is_house(hall, value[1]) or not is_house(hall, value[2]):
        return False
    return value[1] in lot and value[1] != value[2]


def are_lies(hall, lot, last, value):
    """Whether the value is a dict of lies for so many rounds over lines."""
    if not isinstance(value, dict):
        return False
    return all([is_round_key(hall, lot, last, key) and is_plain(value[key]) for key in value])


def check_foe(hall, lot, last, lies):
    """Refuse what is no lot with lies for so many rounds."""
    check_lot(hall, lot)
    if not are_lies(hall, lot, last, lies):
        raise InvalidLies("not lies for these rounds")


def check_start(hall, values, lot, lies):
    """Refuse what houses can't begin with."""
    check_lie_hall(hall)
    check_values(values, hall.houses, hall.houses)
    check_foe(hall, lot, 2 * hall.most + 2, lies)


def most_of(values):
    """The most heard value, with how many told it; the first one of equally many."""
    best = values[0]
    most = 0
    for value in values:
        many = values.count(value)
        if many > most:
            best = value
            most = many
    return best, most


def most_heard(values):
    """The pair of the most heard value and of how many told it."""
    check_values(values, 1, MOST_VALUES)
    return most_of(values)


def held_behind(hall, heard, told):
    """What a house holds that has a pair of its most heard value and their number, and heard this from the king."""
    value, many = heard
    return value if 2 * many > hall.houses + 2 * hall.most else told


def kept(hall, heard, told):
    """What a house holds behind a phase."""
    check_lie_hall(hall)
    check_values(heard, hall.houses, hall.houses)
    if not is_plain(told):
        raise InvalidWord("not a plain value")
    return held_behind(hall, most_of(heard), told)


def next_values(hall, values, number, king, lies):
    """What all houses hold behind a phase that begins with the round of this number."""
    heard = [most_of(tuple([spoken(lies, number, sender, goal, values[sender - 1]) for sender in hall.places]))
             for goal in hall.places]
    word = heard[king - 1][0]
    told = [spoken(lies, number + 1, king, goal, word) for goal in hall.places]
    return tuple([held_behind(hall, pair, value) for pair, value in zip(heard, told)])


def all_phases(hall, values, first, lies):
    """What all houses hold at the beginning and behind each phase, the rounds being counted from the first one."""
    rows = [values]
    for king in range(1, hall.most + 2):
        rows.append(next_values(hall, rows[-1], first + 2 * king - 2, king, lies))
    return tuple(rows)


def phases(hall, values, lot, lies):
    """The tuple of what all houses hold at the beginning and behind each phase."""
    check_start(hall, values, lot, lies)
    return all_phases(hall, values, 1, lies)


def free_houses(hall, lot):
    """The houses that the foe does not lead; there is always one."""
    return [house for house in hall.places if house not in lot]


def agreed(hall, values, lot, lies):
    """What the free houses hold at the end."""
    check_start(hall, values, lot, lies)
    return all_phases(hall, values, 1, lies)[-1][free_houses(hall, lot)[0] - 1]


def walled(hall, house, text, lot, lies):
    """What the free houses hold at the end, of a text that a house told all in a round ahead."""
    check_lie_hall(hall)
    check_house(hall, house)
    check_values((text,), 1, 1)
    check_foe(hall, lot, 2 * hall.most + 3, lies)
    values = tuple([spoken(lies, 1, house, goal, text) for goal in hall.places])
    return all_phases(hall, values, 2, lies)[-1][free_houses(hall, lot)[0] - 1]


def are_settled(hall, values, lot):
    """Whether all free houses hold one value."""
    held = [values[house - 1] for house in free_houses(hall, lot)]
    return all([value == held[0] for value in held])


def settling(hall, values, lot, lies):
    """The least number of phases behind which the free houses are settled."""
    check_start(hall, values, lot, lies)
    return len([row for row in all_phases(hall, values, 1, lies) if not are_settled(hall, row, lot)])


def latest(hall, lot):
    """The number of phases behind which the free houses are settled at the latest."""
    check_lie_hall(hall)
    check_lot(hall, lot)
    return free_houses(hall, lot)[0]


def late_paper(hall, lot):
    """Values and lies with which the free houses are settled at the latest."""
    last = latest(hall, lot)
    free = free_houses(hall, lot)
    # Halves, of which no house hears one from surely many. Each led king tells all their own values.
    values = tuple([free.index(house) % 2 if house in free else 0 for house in hall.places])
    lies = {(2 * king, king, goal): values[goal - 1]
            for king in range(1, last) for goal in hall.places if goal != king}
    return values, lies


def is_late_paper(hall, lot, value):
    """Whether the value is such a pair."""
    last = latest(hall, lot)
    if not isinstance(value, tuple) or len(value) != 2:
        return False
    values, lies = value
    if not are_plain(values, hall.houses, hall.houses) or not are_lies(hall, lot, 2 * hall.most + 2, lies):
        return False
    return settling(hall, values, lot, lies) == last
