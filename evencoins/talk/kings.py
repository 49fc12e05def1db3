"""Kings: a wall from lines. In phases of two rounds all free houses come to hold one value."""

from evencoins.base.field import are_numbers
from evencoins.errors import InvalidLies, InvalidWord
from evencoins.talk.halls import check_house, check_lie_hall
from evencoins.talk.letters import check_lot, is_plain, spoken

MOST_VALUES = 9


def are_plain(value, least, most):
    """Whether the value is a tuple of so many plain values."""
    if not isinstance(value, tuple) or not least <= len(value) <= most:
        return False
    return all([is_plain(part) for part in value])


def check_values(value, least, most):
    """Refuse what is no tuple of so many plain values."""
    if not are_plain(value, least, most):
        raise InvalidWord("not so many plain values")


def are_lies(hall, lot, last, value):
    """Whether the value is a dict of lies for so many rounds over lines."""
    if not isinstance(value, dict):
        return False
    bound = max(last, hall.houses) + 1
    for key, told in value.items():
        if not are_numbers(bound, key) or len(key) != 3:
            return False
        number, sender, goal = key
        if not 1 <= number <= last or sender not in lot or goal == sender or not 1 <= goal <= hall.houses:
            return False
        if not is_plain(told):
            return False
    return True


def check_foe(hall, lot, last, lies):
    """Refuse what is no lot with lies for so many rounds."""
    check_lot(hall, lot)
    if not are_lies(hall, lot, last, lies):
        raise InvalidLies("not lies for these rounds")


def check_start(hall, values, lot, lies):
    """Refuse what houses can't begin with."""
    check_lie_hall(hall)
    check_values(values, hall.houses, hall.houses)
    check_foe(hall, lot, 2 * hall.most + 2, lies)


def most_of(values):
    """The most heard value, with how many told it; the first one of equally many."""
    best = values[0]
    most = 0
    for value in values:
        many = values.count(value)
        if many > most:
            best = value
            most = many
        if 2 * most >= len(values):
            # No later one is heard from more.
            break
    return best, most


def most_in_columns(rows):
    """For each place the most heard one of what all rows have there, with how many have it."""
    first = rows[0]
    if all([row == first for row in rows]):
        return tuple([(value, len(rows)) for value in first])
    return tuple([most_of(column) for column in zip(*rows)])


def most_heard(values):
    """The pair of the most heard value and of how many told it."""
    check_values(values, 1, MOST_VALUES)
    return most_of(values)


def held_behind(hall, heard, told):
    """What a house holds that has a pair of its most heard value and their number, and heard this from the king."""
    value, many = heard
    return value if 2 * many > hall.houses + 2 * hall.most else told


def kept(hall, heard, told):
    """What a house holds behind a phase."""
    check_lie_hall(hall)
    check_values(heard, hall.houses, hall.houses)
    if not is_plain(told):
        raise InvalidWord("not a plain value")
    return held_behind(hall, most_of(heard), told)


def told_to(values, lot, number, goal, lies):
    """What all houses, which hold these values, tell a house in a round: those of the lot what the lies tell."""
    told = list(values)
    for sender in lot:
        if (number, sender, goal) in lies:
            told[sender - 1] = lies[(number, sender, goal)]
    return told


def next_values(hall, values, number, king, lot, lies):
    """What all houses hold behind a phase that begins with the round of this number."""
    heard = [most_of(told_to(values, lot, number, goal, lies)) for goal in hall.places]
    word = heard[king - 1][0]
    told = [spoken(lies, number + 1, king, goal, word) for goal in hall.places]
    return tuple([held_behind(hall, pair, value) for pair, value in zip(heard, told)])


def all_phases(hall, values, first, lot, lies):
    """What all houses hold at the beginning and behind each phase, the rounds being counted from the first one."""
    rows = [values]
    for king in range(1, hall.most + 2):
        rows.append(next_values(hall, rows[-1], first + 2 * king - 2, king, lot, lies))
    return tuple(rows)


def phases(hall, values, lot, lies):
    """The tuple of what all houses hold at the beginning and behind each phase."""
    check_start(hall, values, lot, lies)
    return all_phases(hall, values, 1, lot, lies)


def free_houses(hall, lot):
    """The houses that the foe does not lead; there is always one."""
    return [house for house in hall.places if house not in lot]


def agreed(hall, values, lot, lies):
    """What the free houses hold at the end."""
    check_start(hall, values, lot, lies)
    return all_phases(hall, values, 1, lot, lies)[-1][free_houses(hall, lot)[0] - 1]


def walled(hall, house, text, lot, lies):
    """What the free houses hold at the end, of a text that a house told all in a round ahead."""
    check_lie_hall(hall)
    check_house(hall, house)
    check_values((text,), 1, 1)
    check_foe(hall, lot, 2 * hall.most + 3, lies)
    values = tuple([spoken(lies, 1, house, goal, text) for goal in hall.places])
    return all_phases(hall, values, 2, lot, lies)[-1][free_houses(hall, lot)[0] - 1]


def are_settled(free, values):
    """Whether all free houses hold one value."""
    first = values[free[0] - 1]
    return all([values[house - 1] == first for house in free])


def phases_to_settle(hall, values, lot, lies):
    """The number of phases behind which the free houses are settled, the first time; there always is one."""
    free = free_houses(hall, lot)
    row = values
    many = 0
    while not are_settled(free, row):
        many += 1
        row = next_values(hall, row, 2 * many - 1, many, lot, lies)
    return many


def settling(hall, values, lot, lies):
    """The least number of phases behind which the free houses are settled."""
    check_start(hall, values, lot, lies)
    return phases_to_settle(hall, values, lot, lies)


def latest(hall, lot):
    """The number of phases behind which the free houses are settled at the latest."""
    check_lie_hall(hall)
    check_lot(hall, lot)
    return free_houses(hall, lot)[0]


def late_paper(hall, lot):
    """Values and lies with which the free houses are settled at the latest."""
    last = latest(hall, lot)
    free = free_houses(hall, lot)
    # Halves, of which no house hears one from surely many. Each led king tells all their own values.
    values = tuple([free.index(house) % 2 if house in free else 0 for house in hall.places])
    lies = {(2 * king, king, goal): values[goal - 1]
            for king in range(1, last) for goal in hall.places if goal != king}
    return values, lies


def is_late_paper(hall, lot, value):
    """Whether the value is such a pair."""
    last = latest(hall, lot)
    if not isinstance(value, tuple) or len(value) != 2:
        return False
    values, lies = value
    if not are_plain(values, hall.houses, hall.houses) or not are_lies(hall, lot, 2 * hall.most + 2, lies):
        return False
    return phases_to_settle(hall, values, lot, lies) == last
