"""Kings: a wall from lines. In phases of two rounds all free houses come to hold one value."""

from evencoins.errors import InvalidLies, InvalidWord
from evencoins.talk.halls import check_house, check_lie_hall
from evencoins.talk.letters import DEEPEST, check_lot, is_plain, is_plain_within

MOST_VALUES = 9


def are_plain(value, least, most):
    """Whether the value is a tuple of so many plain values: so it is itself plain, but for one level more."""
    return isinstance(value, tuple) and least <= len(value) <= most and is_plain_within(value, DEEPEST + 1)


def check_values(value, least, most):
    """Refuse what is no tuple of so many plain values."""
    if not are_plain(value, least, most):
        raise InvalidWord("not so many plain values")


def is_lie_key(last, houses, lot, value):
    """Whether the value is a round up to the last one, a house of the lot, and another house."""
    if not isinstance(value, tuple) or len(value) != 3:
        return False
    number, sender, goal = value
    # True is no round and no house, and equals 1.
    if number is True or sender is True or goal is True or sender not in lot or goal == sender:
        return False
    return isinstance(number, int) and isinstance(goal, int) and 1 <= number <= last and 1 <= goal <= houses


def lies_by_rounds(hall, lot, last, value):
    """The dict from rounds to the lists of their lies, of a dict of lies for so many rounds over lines; else None."""
    if not isinstance(value, dict):
        return None
    houses = hall.houses
    found = {}
    for key, told in value.items():
        if not is_lie_key(last, houses, lot, key) or not is_plain_within(told, DEEPEST):
            return None
        number, sender, goal = key
        if number in found:
            found[number].append((sender, goal, told))
        else:
            found[number] = [(sender, goal, told)]
    return found


def checked_lies(hall, lot, last, lies):
    """The lies by rounds; what is no lot with lies for so many rounds is refused."""
    check_lot(hall, lot)
    found = lies_by_rounds(hall, lot, last, lies)
    if found is None:
        raise InvalidLies("not lies for these rounds")
    return found


def checked_start(hall, values, lot, lies):
    """The lies by rounds; what houses can't begin with is refused."""
    check_lie_hall(hall)
    check_values(values, hall.houses, hall.houses)
    return checked_lies(hall, lot, 2 * hall.most + 2, lies)


def most_of(values):
    """The most heard value, with how many told it; the first one of equally many."""
    best = values[0]
    most = 0
    for value in values:
        many = values.count(value)
        if many > most:
            best = value
            most = many
        if 2 * most >= len(values):
            # No later one is heard from more.
            break
    return best, most


def most_in_columns(rows):
    """For each place the most heard one of what all rows have there, with how many have it."""
    first = rows[0]
    if rows.count(first) == len(rows):
        return tuple([(value, len(rows)) for value in first])
    return tuple([most_of(column) for column in zip(*rows)])


def most_heard(values):
    """The pair of the most heard value and of how many told it."""
    check_values(values, 1, MOST_VALUES)
    return most_of(values)


def held_behind(hall, heard, told):
    """What is held of each of some pairs of a most heard value and of how many told it, and of what the king told."""
    sure = hall.houses + 2 * hall.most
    return tuple([value if 2 * many > sure else part for (value, many), part in zip(heard, told)])


def kept(hall, heard, told):
    """What a house holds behind a phase."""
    check_lie_hall(hall)
    check_values(heard, hall.houses, hall.houses)
    if not is_plain(told):
        raise InvalidWord("not a plain value")
    return held_behind(hall, [most_of(heard)], [told])[0]


def told_otherwise(values, lies):
    """The dict from the houses that hear a lie to the lists of what all houses, which hold these values, tell them."""
    found = {}
    for sender, goal, value in lies:
        if goal not in found:
            found[goal] = list(values)
        found[goal][sender - 1] = value
    return found


def next_values(hall, values, number, king, lied):
    """What all houses hold behind a phase that begins with the round of this number; `lied` has the lies by rounds."""
    many = len(values)
    heard = [most_of(values)] * many
    if number in lied:
        for goal, row in told_otherwise(values, lied[number]).items():
            heard[goal - 1] = most_of(row)
    told = [heard[king - 1][0]] * many
    if number + 1 in lied:
        for sender, goal, value in lied[number + 1]:
            # What others say for the king does nothing.
            if sender == king:
                told[goal - 1] = value
    return held_behind(hall, heard, told)


def all_phases(hall, values, first, lied):
    """What all houses hold at the beginning and behind each phase, the rounds being counted from the first one."""
    rows = [values]
    for king in range(1, hall.most + 2):
        rows.append(next_values(hall, rows[-1], first + 2 * king - 2, king, lied))
    return tuple(rows)


def phases(hall, values, lot, lies):
    """The tuple of what all houses hold at the beginning and behind each phase."""
    lied = checked_start(hall, values, lot, lies)
    return all_phases(hall, values, 1, lied)


def free_houses(hall, lot):
    """The houses that the foe does not lead; there is always one."""
    return [house for house in hall.places if house not in lot]


def agreed(hall, values, lot, lies):
    """What the free houses hold at the end."""
    lied = checked_start(hall, values, lot, lies)
    return all_phases(hall, values, 1, lied)[-1][free_houses(hall, lot)[0] - 1]


def walled(hall, house, text, lot, lies):
    """What the free houses hold at the end, of a text that a house told all in a round ahead."""
    check_lie_hall(hall)
    check_house(hall, house)
    check_values((text,), 1, 1)
    lied = checked_lies(hall, lot, 2 * hall.most + 3, lies)
    values = [text] * hall.houses
    for sender, goal, value in lied.get(1, ()):
        if sender == house:
            values[goal - 1] = value
    return all_phases(hall, tuple(values), 2, lied)[-1][free_houses(hall, lot)[0] - 1]


def are_settled(free, values):
    """Whether all free houses hold one value."""
    held = [values[house - 1] for house in free]
    return held.count(held[0]) == len(held)


def phases_to_settle(hall, values, lot, lied):
    """The number of phases behind which the free houses are settled, the first time; there always is one."""
    free = free_houses(hall, lot)
    row = values
    many = 0
    while not are_settled(free, row):
        many += 1
        row = next_values(hall, row, 2 * many - 1, many, lied)
    return many


def settling(hall, values, lot, lies):
    """The least number of phases behind which the free houses are settled."""
    lied = checked_start(hall, values, lot, lies)
    return phases_to_settle(hall, values, lot, lied)


def latest(hall, lot):
    """The number of phases behind which the free houses are settled at the latest."""
    check_lie_hall(hall)
    check_lot(hall, lot)
    return free_houses(hall, lot)[0]


def late_paper(hall, lot):
    """Values and lies with which the free houses are settled at the latest."""
    last = latest(hall, lot)
    free = free_houses(hall, lot)
    # Halves, of which no house hears one from surely many. Each led king tells all their own values.
    values = tuple([free.index(house) % 2 if house in free else 0 for house in hall.places])
    lies = {(2 * king, king, goal): values[goal - 1]
            for king in range(1, last) for goal in hall.places if goal != king}
    return values, lies


def is_late_paper(hall, lot, value):
    """Whether the value is such a pair."""
    last = latest(hall, lot)
    if not isinstance(value, tuple) or len(value) != 2:
        return False
    values, lies = value
    if not are_plain(values, hall.houses, hall.houses):
        return False
    lied = lies_by_rounds(hall, lot, 2 * hall.most + 2, lies)
    return lied is not None and phases_to_settle(hall, values, lot, lied) == last
