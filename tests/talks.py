"""What the tests of runs share: lies of all kinds, houses that are driven round by round, polys through shares."""

from evencoins.talk.halls import Hall, batches, coins_of, round_kinds
from evencoins.talk.houses import House
from evencoins.talk.letters import blank_letter
from evencoins.plan.circuits import Circuit
from tests.helper import LARGE, SMALL

WALL = ("complaints", "answers", "votes")
RULES = ("coins", "degree", "complaints", "answers", "votes", "errors", "nearest", "king", "bound")
LOOK5, LOOK7, LIE6, WIDE = Hall(7, 5, 2, "look"), Hall(11, 7, 3, "look"), Hall(11, 6, 1, "lie"), Hall(13, 9, 2, "lie")
HALLS = (SMALL, LOOK5, LOOK7, LARGE, LIE6, WIDE)
SUM = Circuit((("input", 1), ("input", 2), ("sum", 0, 1)), ((2, (3,)),))
# An output for one house each, and one for several of them; a product of products.
CHAIN = Circuit((
    ("input", 1), ("input", 2), ("product", 0, 1), ("constant", 4), ("times", 2, 3), ("sum", 4, 3), ("product", 5, 2),
    ("input", 3), ("sum", 6, 7)), ((8, (1, 2, 3)), (2, (2,)), (5, (1, 3))))
BOTH = Circuit((("input", 3), ("input", 1), ("product", 0, 0), ("product", 0, 1), ("sum", 2, 3)), ((4, (2, 3)),))


def schedule(hall, circuit, lines):
    """For each round its number, its word, its batch, the word of what is told, and 1 or n: whether texts are listed."""
    found, batch, at = [], -1, 0
    for number, word in enumerate(round_kinds(hall, circuit, lines=lines), 1):
        if word in ("shares", "rows"):
            batch, at = batch + 1, 0
        if word == "say" or word in WALL:
            at += 1
        text = WALL[at - 1] if word in ("say", "tell", "king") else word
        found.append((number, word, None if word == "outputs" else batch, text))
    return found


def filled(told, field, blank):
    """The letter with drawn numbers for all zeros."""
    return tuple(filled(told, field, part) for part in blank) if isinstance(blank, tuple) else told.randrange(field)


def right_value(told, hall, circuit, word, batch, sender, goal):
    """A drawn letter of the right form."""
    if word in WALL[:2]:
        dealings = batches(hall, circuit)[batch]
        places = [(index, house) for index, (_, dealer) in enumerate(dealings) for house in hall.places
                  if (house != sender if word == WALL[0] else dealer == sender)]
        chosen = sorted(told.sample(places, min(len(places), told.randrange(4))))
        row = (0,) * (hall.most + 1)
        return tuple((index, house, filled(told, hall.field, 0 if word == WALL[0] else row)) for index, house in chosen)
    blank = blank_letter(hall, circuit, word, batch, sender, 0 if word in WALL else goal)
    return filled(told, 2 if word == "votes" else hall.field, blank)


def lie_value(told, hall, circuit, entry, sender, goal):
    """A lie for a round: mostly of the right form."""
    _, word, batch, text = entry
    if told.randrange(4) == 0:
        return told.choice((None, 0, -3, 10 ** 59, (), ((),), (1, 2), ((0,),), (None,) * 5, ((0, 1, 2),), (0, (1, (2,)))))
    if word in ("tell", "king"):
        return tuple(right_value(told, hall, circuit, text, batch, house, goal) for house in hall.places)
    return right_value(told, hall, circuit, text, batch, sender, goal)


def random_lies(told, hall, circuit, lot, lines=False, many=4, words=None):
    """Lies in about so many of ten letters and texts, perhaps in rounds with some words alone."""
    lies = {}
    for entry in schedule(hall, circuit, lines):
        for sender in lot:
            for goal in (0,) if entry[1] in WALL else [house for house in hall.places if house != sender]:
                if told.randrange(10) < many and (words is None or entry[1] in words) and hall.kind == "lie":
                    lies[entry[0], sender, goal] = lie_value(told, hall, circuit, entry, sender, goal)
    return dict(told.sample(sorted(lies.items(), key=lambda item: item[0]), min(len(lies), 300)))


def random_numbers(told, field, many):
    """So many numbers."""
    return tuple(told.randrange(field) for _ in range(many))


def random_parts(told, hall, circuit):
    """Inputs and a dict of coins, in no sequence."""
    inputs = random_numbers(told, hall.field, len(circuit.inputs))
    coins = {house: random_numbers(told, hall.field, coins_of(hall, circuit, house)) for house in hall.places[::-1]}
    return inputs, coins


def random_lot(told, hall):
    """A lot, mostly as great as can be."""
    return tuple(sorted(told.sample(hall.places, told.choice((0, hall.most, hall.most)))))


def own_of(circuit, inputs, house):
    """The inputs of a house."""
    return tuple(number for number, owner in zip(inputs, circuit.houses) if owner == house)


def drive(hall, circuit, inputs, coins, lies, **keywords):
    """The houses behind the last round, and all that was told, with the lies in its place."""
    houses = {house: House(hall, circuit, house, own_of(circuit, inputs, house), coins[house], **keywords)
              for house in hall.places}
    letters, number = {}, 0
    while not houses[1].is_done:
        number += 1
        now = {}
        for house in hall.places:
            mine, text = houses[house].says()
            for goal, value in list(mine.items()) + ([] if text is None else [(0, text)]):
                now[number, house, goal] = lies.get((number, house, goal), value)
        letters.update(now)
        for goal in hall.places:
            heard = {sender: value for (_, sender, to), value in now.items() if to == goal}
            texts = {sender: value for (_, sender, to), value in now.items() if to == 0}
            houses[goal] = houses[goal].hearing(heard, texts)
    return houses, letters


def value_through(field, points, x):
    """The value at x of the poly through all points."""
    total = 0
    for i, number in points:
        term = number
        for j, _ in points:
            if i != j:
                term = term * (x - j) * pow(i - j, -1, field) % field
        total += term
    return total % field


def is_on_poly(field, points, degree):
    """Whether all points lie on a poly of at most this degree."""
    return all(value_through(field, points[:degree + 1], x) == number for x, number in points)


def free_points(hall, lot, word):
    """The points of the free houses in a word of shares."""
    return [(house, word[house - 1]) for house in hall.places if house not in lot]
