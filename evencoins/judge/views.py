"""Views of a lot: inputs that are alike to it, the exchange of coins between them, and views that are made."""

from evencoins.base.field import are_numbers
from evencoins.base.polys import evaluated, hiding_poly
from evencoins.codes.sharing import coins_behind
from evencoins.codes.square import square_coins_behind
from evencoins.errors import InvalidInputs, InvalidOperation
from evencoins.plan.circuits import meaning_of
from evencoins.talk.courses import Course
from evencoins.talk.frames import Frame
from evencoins.talk.given import are_coins, check_all_coins, check_inputs, free_of
from evencoins.talk.halls import check_lines, check_talk
from evencoins.talk.letters import check_lot
from evencoins.talk.records import heard_by_lot, view_of
from evencoins.talk.runs import check_lies, check_run, committed_in, course_in
from evencoins.talk.talks import Talk


def told_indices(circuit, lot):
    """The indices of the outputs that some house of the lot is told."""
    return [index for index, (gate, houses) in enumerate(circuit.outputs) if any([house in lot for house in houses])]


def lot_outputs(circuit, lot, numbers):
    """The numbers of the outputs that the lot is told, by the numbers of all gates."""
    return [numbers[circuit.outputs[index][0]] for index in told_indices(circuit, lot)]


def has_own_inputs(course, inputs):
    """Whether the inputs of the lot are those of the course."""
    pairs = zip(course.net.houses, course.given, inputs)
    return all([house not in course.frame.foe or one == other for house, one, other in pairs])


def numbers_for(course, inputs):
    """What the circuit makes of inputs, with the committed ones of the lot in the place of its own ones."""
    pairs = zip(course.net.houses, inputs, committed_in(course))
    told = [committed if house in course.frame.foe else number for house, number, committed in pairs]
    return meaning_of(course.room.field, course.net.gates, told)


def are_alike_inputs(course, inputs):
    """Whether inputs that are known to be right are alike to the lot of a course."""
    if not has_own_inputs(course, inputs):
        return False
    circuit, lot = course.net, course.frame.foe
    one = lot_outputs(circuit, lot, numbers_for(course, course.given))
    return one == lot_outputs(circuit, lot, numbers_for(course, inputs))


def are_alike(run, inputs):
    """Whether inputs are alike to the lot of a run."""
    check_run(run)
    check_inputs(run.hall, run.circuit, inputs)
    return are_alike_inputs(course_in(run), inputs)


def check_own_inputs(run, inputs):
    """Refuse what is no run with inputs for it that are the lot's own ones."""
    check_run(run)
    check_inputs(run.hall, run.circuit, inputs)
    if not has_own_inputs(course_in(run), inputs):
        raise InvalidInputs("not the inputs of the lot")


def dealt_in_turn(circuit, house, inputs, shares):
    """All numbers that a house deals, one behind the other: its inputs, and products of its shares."""
    own = [number for owner, number in zip(circuit.houses, inputs) if owner == house]
    pairs = [circuit.gates[gate][1:] for level in circuit.levels for gate in level]
    return own + [shares[one] * shares[other] for one, other in pairs]


def changed_by(hall, lot, coins, changes):
    """The coins of a house that deals numbers which are so much more."""
    each = hall.coins_each
    found = ()
    for place, change in enumerate(changes):
        part = coins[place * each:(place + 1) * each]
        if hall.kind == "look":
            found = found + coins_behind(hall.field, lot, part, change)
        else:
            found = found + square_coins_behind(hall.field, lot, part, change, hall.most)
    return found


def exchanged_coins(course, inputs):
    """The dict of coins of the exchange: each sharing has the hiding poly of the lot more, as often as its number."""
    hall, circuit, lot = course.room, course.net, course.frame.foe
    poly = hiding_poly(hall.field, lot)
    more = [other - one for one, other in zip(numbers_for(course, course.given), numbers_for(course, inputs))]
    coins = {house: row for house, row in course.drawn.items()}
    for house in free_of(hall, lot):
        weight = evaluated(hall.field, poly, house)
        shares = [course.words[gate][house - 1] for gate in range(len(more))]
        others = [(share + weight * x) % hall.field for share, x in zip(shares, more)]
        before = dealt_in_turn(circuit, house, course.given, shares)
        behind = dealt_in_turn(circuit, house, inputs, others)
        changes = [(y - x) % hall.field for x, y in zip(before, behind)]
        coins[house] = changed_by(hall, lot, coins[house], changes)
    return coins


def exchanged(run, inputs):
    """The dict of the coins of all houses with which these inputs make the same view, if they are alike."""
    check_own_inputs(run, inputs)
    if run.without is not None:
        raise InvalidOperation("a rule is left out")
    return exchanged_coins(course_in(run), inputs)


def heard_with(course, inputs, coins):
    """What the lot would hear if the course had these inputs and coins."""
    return heard_by_lot(Course(course.frame, inputs, coins))


def is_exchange(run, inputs, value):
    """Whether the value is a dict of coins with which a run with these inputs has the same view."""
    check_own_inputs(run, inputs)
    if not are_coins(run.hall, run.circuit, run.hall.places, value):
        return False
    course = course_in(run)
    if any([value[house] != course.drawn[house] for house in run.lot]):
        return False
    # Its own inputs and coins are the same: so is its view, if it hears the same.
    return heard_with(course, inputs, value) == heard_by_lot(course)


def are_numbers_of(field, keys, value):
    """Whether the value is a dict from just these integers to numbers."""
    if not isinstance(value, dict) or any([isinstance(key, bool) for key in value]):
        return False
    return len(value) == len(keys) and all([key in value for key in keys]) and are_numbers(field, tuple(value.values()))


def check_numbers_of(field, keys, value):
    """Refuse what is no dict from just these integers to numbers."""
    if not are_numbers_of(field, keys, value):
        raise InvalidInputs("not a dict with just these numbers")


def shifted_letter(course, key, letter, changes):
    """A letter of the last round, its shares of outputs being so much more."""
    number, sender, goal = key
    field = course.room.field
    weight = evaluated(field, hiding_poly(field, course.frame.foe), sender)
    pairs = zip(letter, course.talk.goals[goal])
    return tuple([(share + changes[index] * weight) % field for share, index in pairs])


def made_view(hall, circuit, lot, own, told, coins, *, lines=False, lies=None):
    """The view of a lot, made of its own inputs, of the outputs that it is told, and of coins."""
    check_talk(hall, circuit)
    check_lot(hall, lot)
    gates = [gate for gate, house in zip(circuit.inputs, circuit.houses) if house in lot]
    check_numbers_of(hall.field, gates, own)
    check_numbers_of(hall.field, told_indices(circuit, lot), told)
    check_all_coins(hall, circuit, hall.places, coins)
    check_lines(lines)
    talk = Talk(hall, circuit, None, lines)
    table = {} if lies is None else lies
    check_lies(talk, lot, table)
    inputs = tuple([own.get(gate, 0) for gate in circuit.inputs])
    return made_of(Course(Frame(talk, lot, table), inputs, coins), told)


def made_of(course, told):
    """The view of a course whose free inputs are 0, with what it takes that the lot is told these outputs."""
    circuit = course.net
    numbers = meaning_of(course.room.field, circuit.gates, committed_in(course))
    changes = {index: told[index] - numbers[circuit.outputs[index][0]] for index in told}
    given, drawn, letters = view_of(course)
    last = len(course.said)
    found = [(key, shifted_letter(course, key, letter, changes))
             if key[0] == last and key[1] not in course.frame.foe else (key, letter) for key, letter in letters]
    return given, drawn, tuple(found)
