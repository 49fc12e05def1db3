"""For each rule a run that goes wrong without it, or whose view parts alike inputs."""

from evencoins.plan.circuits import Circuit
from evencoins.talk.halls import Hall

PRODUCT_GATES = (("input", 1), ("input", 2), ("product", 0, 1))


def told_apart(lies, last, share):
    """The lies, and those of house 1 in the last round: house 2 is told a share, and house 3 nothing."""
    return {**lies, (last, 1, 2): (share,), (last, 1, 3): ()}


def dealt_wrong(first, share, lines):
    """The parts of a run in which the led house 1 deals 3, so that house 4 has the share 0, and tells what it likes.

    One free share is off. So an output is right for whom house 1 tells its share; it is 0 for others.
    """
    hall = Hall(7, 5, 1, "lie")
    circuit = Circuit((("input", 1),), ((0, (2, 3)),))
    last = 18 if lines else 6
    coins = {1: (1, 2), 2: (), 3: (), 4: (), 5: ()}
    return "wrong", hall, circuit, (3,), coins, (1,), told_apart(first, last, share), lines


def without_king():
    """House 1 deals a wrong row to house 2, which votes 0; whether house 1 votes 1 is told to each as it likes."""
    lies = {(1, 1, 2): ((0, 0),)}
    for goal, vote in ((2, 1), (3, 1), (4, 0), (5, 0)):
        lies[(13, 1, goal)] = (vote,)
        lies[(15, 1, goal)] = ((vote,), (0,), (1,), (1,), (1,))
    return dealt_wrong(lies, 4, True)


def of_a_product(kind, outputs, lot, lies):
    """The parts of a run of a product of the numbers of the houses 1 and 2, with coins that are all 2."""
    hall = Hall(7, 5, 1, "lie") if kind == "lie" else Hall(5, 3, 1, "look")
    each = 2 if kind == "lie" else 1
    coins = {house: (2,) * each * (2 if house < 3 else 1) for house in hall.places}
    return hall, Circuit(PRODUCT_GATES, ((2, outputs),)), (3, 4), coins, lot, lies


def parts_for(word):
    """A broken run for a rule."""
    if word == "coins":
        return ("parted",) + of_a_product("look", (1,), (3,), {}) + ((0, 0),)
    if word == "degree":
        return ("wrong",) + of_a_product("look", (3,), (), {}) + (False,)
    if word == "complaints" or word == "answers":
        return dealt_wrong({(1, 1, 5): ((0, 0),)}, 4, False)
    if word == "votes":
        return dealt_wrong({(1, 1, 5): ((0, 0),), (4, 1, 0): ()}, 4, False)
    if word == "errors":
        lies = {(6, 3, goal): ((0, 0),) for goal in (1, 2, 4, 5)}
        return ("wrong",) + of_a_product("lie", (1,), (3,), lies) + (False,)
    if word == "nearest":
        circuit = Circuit((("input", 4),), ((0, (3,)),))
        coins = {1: (), 2: (), 3: (), 4: (1, 2), 5: ()}
        return "wrong", Hall(7, 5, 1, "lie"), circuit, (3,), coins, (1,), {(6, 1, 3): ()}, False
    if word == "king":
        return without_king()
    circuit = Circuit((("input", 1),), ((0, (1,)),))
    return "parted", Hall(5, 3, 1, "look"), circuit, (1,), {1: (1,), 2: (), 3: ()}, (2, 3), {}, (0,)
