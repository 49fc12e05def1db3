"""Views of a lot: inputs that are alike to it, the exchange of coins between them, and views that are made."""

from evencoins.base.field import are_numbers
from evencoins.base.polys import evaluated, hiding_poly
from evencoins.codes.sharing import coins_behind
from evencoins.codes.square import square_coins_behind
from evencoins.errors import InvalidInputs, InvalidOperation
from evencoins.plan.circuits import meaning_of
from evencoins.talk.courses import Course, are_coins, check_all_coins, check_inputs, free_of, view_of
from evencoins.talk.halls import check_lines, check_talk, coins_each
from evencoins.talk.letters import check_lot
from evencoins.talk.runs import check_lies, check_run, committed_in, gate_words
from evencoins.talk.talks import Talk


def told_indices(circuit, lot):
    """The indices of the outputs that some house of the lot is told."""
    return [index for index, (gate, houses) in enumerate(circuit.outputs) if any([house in lot for house in houses])]


def lot_outputs(circuit, lot, numbers):
    """The numbers of the outputs that the lot is told, by the numbers of all gates."""
    return [numbers[circuit.outputs[index][0]] for index in told_indices(circuit, lot)]


def has_own_inputs(run, inputs):
    """Whether the inputs of the lot are those of the run."""
    pairs = zip(run.circuit.houses, run.inputs, inputs)
    return all([house not in run.lot or one == other for house, one, other in pairs])


def with_committed(run, inputs):
    """The inputs, with the committed ones of the lot in the place of its own ones."""
    pairs = zip(run.circuit.houses, inputs, run.committed)
    return tuple([committed if house in run.lot else number for house, number, committed in pairs])


def numbers_for(run, inputs):
    """What the circuit makes of inputs, with the committed ones of the lot."""
    return meaning_of(run.hall.field, run.circuit.gates, with_committed(run, inputs))


def are_alike_inputs(run, inputs):
    """Whether inputs that are known to be right are alike to the lot of a run."""
    if not has_own_inputs(run, inputs):
        return False
    one = lot_outputs(run.circuit, run.lot, numbers_for(run, run.inputs))
    return one == lot_outputs(run.circuit, run.lot, numbers_for(run, inputs))


def are_alike(run, inputs):
    """Whether inputs are alike to the lot of a run."""
    check_run(run)
    check_inputs(run.hall, run.circuit, inputs)
    return are_alike_inputs(run, inputs)


def check_own_inputs(run, inputs):
    """Refuse what is no run with inputs for it that are the lot's own ones."""
    check_run(run)
    check_inputs(run.hall, run.circuit, inputs)
    if not has_own_inputs(run, inputs):
        raise InvalidInputs("not the inputs of the lot")


def shares_by(words, house):
    """The list of the shares of one house of all gates."""
    return [words[gate][house - 1] for gate in sorted(words)]


def dealt_in_turn(circuit, house, inputs, shares):
    """All numbers that a house deals, one behind the other: its inputs, and products of its shares."""
    own = [number for owner, number in zip(circuit.houses, inputs) if owner == house]
    pairs = [circuit.gates[gate][1:] for level in circuit.levels for gate in level]
    return own + [shares[one] * shares[other] for one, other in pairs]


def changed_by(hall, lot, coins, changes):
    """The coins of a house that deals numbers which are so much more."""
    each = coins_each(hall)
    found = ()
    for place, change in enumerate(changes):
        part = coins[place * each:(place + 1) * each]
        if hall.kind == "look":
            found = found + coins_behind(hall.field, lot, part, change)
        else:
            found = found + square_coins_behind(hall.field, lot, part, change, hall.most)
    return found


def exchanged_coins(run, inputs):
    """The dict of coins of the exchange: each sharing has the hiding poly of the lot more, as often as its number."""
    hall, circuit, lot = run.hall, run.circuit, run.lot
    poly = hiding_poly(hall.field, lot)
    more = [other - one for one, other in zip(numbers_for(run, run.inputs), numbers_for(run, inputs))]
    words = run.shares
    coins = run.coins
    for house in free_of(hall, lot):
        weight = evaluated(hall.field, poly, house)
        shares = shares_by(words, house)
        others = [(share + weight * x) % hall.field for share, x in zip(shares, more)]
        before = dealt_in_turn(circuit, house, run.inputs, shares)
        behind = dealt_in_turn(circuit, house, inputs, others)
        changes = [(y - x) % hall.field for x, y in zip(before, behind)]
        coins[house] = changed_by(hall, lot, coins[house], changes)
    return coins


def exchanged(run, inputs):
    """The dict of the coins of all houses with which these inputs make the same view, if they are alike."""
    check_own_inputs(run, inputs)
    if run.without is not None:
        raise InvalidOperation("a rule is left out")
    return exchanged_coins(run, inputs)


def view_with(run, inputs, coins):
    """The view of the lot if the run had these inputs and coins."""
    talk = Talk(run.hall, run.circuit, run.without, run.lines)
    return view_of(Course(talk, inputs, coins, run.lot, run.lies))


def is_exchange(run, inputs, value):
    """Whether the value is a dict of coins with which a run with these inputs has the same view."""
    check_own_inputs(run, inputs)
    if not are_coins(run.hall, run.circuit, run.hall.places, value):
        return False
    coins = run.coins
    if any([value[house] != coins[house] for house in run.lot]):
        return False
    return view_with(run, inputs, value) == run.view


def are_numbers_of(field, keys, value):
    """Whether the value is a dict from just these integers to numbers."""
    if not isinstance(value, dict) or any([isinstance(key, bool) for key in value]):
        return False
    return len(value) == len(keys) and all([key in value for key in keys]) and are_numbers(field, tuple(value.values()))


def check_numbers_of(field, keys, value):
    """Refuse what is no dict from just these integers to numbers."""
    if not are_numbers_of(field, keys, value):
        raise InvalidInputs("not a dict with just these numbers")


def shifted_letter(course, key, letter, changes):
    """A letter of the last round, its shares of outputs being so much more."""
    number, sender, goal = key
    weight = evaluated(course.talk.hall.field, hiding_poly(course.talk.hall.field, course.foe), sender)
    pairs = zip(letter, course.talk.goals[goal])
    return tuple([(share + changes[index] * weight) % course.talk.hall.field for share, index in pairs])


def made_view(hall, circuit, lot, own, told, coins, *, lines=False, lies=None):
    """The view of a lot, made of its own inputs, of the outputs that it is told, and of coins."""
    check_talk(hall, circuit)
    check_lot(hall, lot)
    gates = [gate for gate, house in zip(circuit.inputs, circuit.houses) if house in lot]
    check_numbers_of(hall.field, gates, own)
    check_numbers_of(hall.field, told_indices(circuit, lot), told)
    check_all_coins(hall, circuit, hall.places, coins)
    check_lines(lines)
    talk = Talk(hall, circuit, None, lines)
    table = {} if lies is None else lies
    check_lies(talk, lot, table)
    inputs = tuple([own.get(gate, 0) for gate in circuit.inputs])
    return made_of(Course(talk, inputs, coins, lot, table), told)


def made_of(course, told):
    """The view of a course whose free inputs are 0, with what it takes that the lot is told these outputs."""
    circuit, field = course.talk.circuit, course.talk.hall.field
    numbers = meaning_of(field, circuit.gates, committed_in(course, gate_words(course)))
    changes = {index: told[index] - numbers[circuit.outputs[index][0]] for index in told}
    given, drawn, letters = view_of(course)
    last = len(course.said)
    found = [(key, shifted_letter(course, key, letter, changes))
             if key[0] == last and key[1] not in course.foe else (key, letter) for key, letter in letters]
    return given, drawn, tuple(found)
