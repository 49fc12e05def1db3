"""Letters and texts: plain values, the forms that count, and lies."""

from evencoins.base.field import are_numbers, check_integer
from evencoins.errors import InvalidLot, InvalidNumber, UnknownName
from evencoins.talk.halls import WALL_WORDS, batches_of, check_house, check_lines, check_talk, plan_of

MOST_LIES = 300
MOST_MEMBERS = 1000
DEEPEST = 6
LEAST_PLAIN = 1 - 10 ** 60
MOST_PLAIN = 10 ** 60 - 1
LOOK_WORDS = ("shares", "outputs")
LIE_WORDS = ("rows", "points", "complaints", "answers", "votes", "syndromes", "outputs")


def is_plain_within(value, deep):
    """Whether the value is plain, with tuples nested at most so deep."""
    if isinstance(value, int):
        return value is not True and value is not False and LEAST_PLAIN <= value <= MOST_PLAIN
    if not isinstance(value, tuple):
        return value is None
    if deep == 0 or len(value) > MOST_MEMBERS:
        return False
    for part in value:
        if isinstance(part, int):
            if part is True or part is False or not LEAST_PLAIN <= part <= MOST_PLAIN:
                return False
        elif isinstance(part, tuple):
            # Most texts are empty.
            if (part or deep == 1) and not is_plain_within(part, deep - 1):
                return False
        elif part is not None:
            return False
    return True


def is_plain(value):
    """Whether the value is None, an integer, or a tuple of plain values."""
    return is_plain_within(value, DEEPEST)


def is_triple(value):
    """Whether the value is a tuple of three."""
    return isinstance(value, tuple) and len(value) == 3


def are_rows(field, value, many, width):
    """Whether the value is a tuple of so many rows of so many numbers."""
    if not isinstance(value, tuple) or len(value) != many:
        return False
    for row in value:
        if not are_numbers(field, row) or len(row) != width:
            return False
    return True


def are_complaints(hall, pairs, sender, value):
    """Whether the value is a text of complaints."""
    if not isinstance(value, tuple):
        return False
    bound = max(len(pairs), hall.field)
    ahead = (-1, 0)
    for part in value:
        if not are_numbers(bound, part) or len(part) != 3:
            return False
        index, house, number = part
        if index >= len(pairs) or not 1 <= house <= hall.houses or house == sender or number >= hall.field:
            return False
        if (index, house) <= ahead:
            return False
        ahead = (index, house)
    return True


def are_answers(hall, pairs, sender, value):
    """Whether the value is a text of answers."""
    if not isinstance(value, tuple):
        return False
    bound = max(len(pairs), hall.field)
    ahead = (-1, 0)
    for part in value:
        if not is_triple(part) or not are_numbers(bound, part[:2]) or not are_numbers(hall.field, part[2]):
            return False
        index, house, row = part
        if index >= len(pairs) or pairs[index][1] != sender or not 1 <= house <= hall.houses:
            return False
        if len(row) != hall.most + 1 or (index, house) <= ahead:
            return False
        ahead = (index, house)
    return True


def width_of(hall, word):
    """How many numbers each member of a letter has, if it has more than one."""
    return hall.most + 1 if word == "rows" else hall.houses - 2 * hall.most - 1


def has_form(hall, word, pairs, many, sender, value):
    """Whether the value has the form of the word, for a batch of these pairs, with so many members."""
    if word == "complaints":
        return value == () or are_complaints(hall, pairs, sender, value)
    if word == "answers":
        return value == () or are_answers(hall, pairs, sender, value)
    if word in ("rows", "syndromes"):
        return are_rows(hall.field, value, many, width_of(hall, word))
    # Votes are 0 or 1, as if they were numbers modulo 2.
    return are_numbers(2 if word == "votes" else hall.field, value) and len(value) == many


def blank_of(hall, word, many):
    """What counts in the place of a value without the form of the word."""
    if word in ("complaints", "answers"):
        return ()
    if word in ("rows", "syndromes"):
        return ((0,) * width_of(hall, word),) * many
    return (0,) * many


def counted(hall, word, pairs, many, sender, value):
    """What counts for a value."""
    return value if has_form(hall, word, pairs, many, sender, value) else blank_of(hall, word, many)


def own_indices(pairs, house):
    """The indices of the dealings of a house in a batch of these pairs."""
    return tuple([index for index, pair in enumerate(pairs) if pair[1] == house])


def told_outputs(circuit, house):
    """The indices of the outputs that a house is told."""
    return tuple([index for index, output in enumerate(circuit.outputs) if house in output[1]])


def members_of(circuit, word, batch, pairs, sender, goal):
    """How many members a letter has that is no list of complaints or answers."""
    if word in ("shares", "rows"):
        return len(own_indices(pairs, sender))
    if word == "outputs":
        return len(told_outputs(circuit, goal))
    return len(circuit.levels[batch - 1]) if word == "syndromes" else len(pairs)


def check_batch(circuit, word, batch):
    """Refuse what is no number of a batch with such letters."""
    if word != "outputs":
        check_integer(batch, 1 if word == "syndromes" else 0, len(circuit.levels))
    elif batch is not None:
        raise InvalidNumber(batch)


def check_word(hall, word):
    """Refuse what is no word of a round of the hall."""
    if word not in (LOOK_WORDS if hall.kind == "look" else LIE_WORDS):
        raise UnknownName(word)


def check_goal(hall, word, sender, goal):
    """Refuse what is not 0 for the wall, or not another house."""
    if word in WALL_WORDS:
        check_integer(goal, 0, 0)
    else:
        check_house(hall, goal)
        if goal == sender:
            raise InvalidNumber(goal)


def check_letter(hall, circuit, word, batch, sender, goal):
    """Refuse what does not tell a letter of a talk, or a text."""
    check_talk(hall, circuit)
    check_word(hall, word)
    check_batch(circuit, word, batch)
    check_house(hall, sender)
    check_goal(hall, word, sender, goal)


def pairs_of(hall, circuit, batch):
    """The pairs of a batch, none for None."""
    return () if batch is None else batches_of(hall, circuit)[batch]


def is_right_letter(hall, circuit, word, batch, sender, goal, value):
    """Whether the value has the right form."""
    check_letter(hall, circuit, word, batch, sender, goal)
    pairs = pairs_of(hall, circuit, batch)
    return has_form(hall, word, pairs, members_of(circuit, word, batch, pairs, sender, goal), sender, value)


def blank_letter(hall, circuit, word, batch, sender, goal):
    """What counts in the place of a wrong letter."""
    check_letter(hall, circuit, word, batch, sender, goal)
    pairs = pairs_of(hall, circuit, batch)
    return blank_of(hall, word, members_of(circuit, word, batch, pairs, sender, goal))


def right_letter(hall, circuit, word, batch, sender, goal, value):
    """What counts for any value."""
    check_letter(hall, circuit, word, batch, sender, goal)
    pairs = pairs_of(hall, circuit, batch)
    return counted(hall, word, pairs, members_of(circuit, word, batch, pairs, sender, goal), sender, value)


def is_lie_key(walls, houses, lot, value):
    """Whether the value is a round, a house of the lot, and whom it tells something there.

    `walls` tells of all rounds whether they are on the wall.
    """
    if not is_triple(value):
        return False
    number, sender, goal = value
    # True and False are no rounds and no houses, and equal 1 and 0.
    if number is True or sender is True or goal is True or goal is False or sender not in lot or goal == sender:
        return False
    if not isinstance(number, int) or not isinstance(goal, int):
        return False
    return 1 <= number <= len(walls) and 0 <= goal <= houses and (goal == 0) == walls[number - 1]


def walls_of(plan):
    """The list that tells of all rounds of a plan whether they are on the wall."""
    return [entry[0] in WALL_WORDS for entry in plan]


def are_lies_of(hall, plan, lot, value):
    """Whether the value is a table of lies of a lot for the talk of this plan."""
    if not isinstance(value, dict) or len(value) > (0 if hall.kind == "look" else MOST_LIES):
        return False
    houses = hall.houses
    walls = walls_of(plan) if value else []
    for key, told in value.items():
        if not is_lie_key(walls, houses, lot, key) or not is_plain_within(told, DEEPEST):
            return False
    return True


def check_lot(hall, lot):
    """Refuse what is no lot of the hall."""
    if not hall.is_lot(lot):
        raise InvalidLot("not a lot of the hall")


def is_lies(hall, circuit, lot, value, *, lines=False):
    """Whether the value is a table of lies for a talk."""
    check_talk(hall, circuit)
    check_lot(hall, lot)
    check_lines(lines)
    return are_lies_of(hall, plan_of(hall, circuit, lines), lot, value)


def spoken(lies, number, sender, goal, value):
    """What is told in the round with this number: the lie, if there is one, or else the value."""
    return lies.get((number, sender, goal), value)
