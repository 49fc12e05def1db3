"""Guards: what goes wrong in runs that leave out a rule."""

from evencoins.base.field import rows_count
from evencoins.errors import TooMany, UnknownName
from evencoins.judge.broken import parts_for
from evencoins.judge.counts import all_coin_rows, check_rows, free_coins, number_rows
from evencoins.judge.views import are_alike_inputs, exchanged_coins, view_with
from evencoins.plan.circuits import Circuit, are_inputs, meaning_of
from evencoins.talk.courses import are_coins, check_inputs, is_foe
from evencoins.talk.halls import Hall, fits_hall, plan_of
from evencoins.talk.letters import are_lies_of
from evencoins.talk.runs import Run, check_run

RULES = ("coins", "degree", "complaints", "answers", "votes", "errors", "nearest", "king", "bound")
MAX_ROWS = 700
MOST_INPUTS = 2
MOST_FIELD = 31


def led_inputs(circuit, lot):
    """The places of the inputs of a lot."""
    return [place for place, house in enumerate(circuit.houses) if house in lot]


def explains(run, outputs, inputs):
    """Whether the circuit tells each free house just the outputs that it has."""
    numbers = meaning_of(run.hall.field, run.circuit.gates, inputs)
    return all([numbers[gate] == number for gate, number in outputs])


def is_explained_run(run):
    """Whether a run, whose lot has few inputs, is explained."""
    gates = [gate for gate, houses in run.circuit.outputs]
    outputs = [(gates[index], number) for (index, house), number in run.outputs.items() if house not in run.lot]
    if explains(run, outputs, run.committed):
        return True
    places = led_inputs(run.circuit, run.lot)
    for numbers in number_rows(run.hall.field, len(places)):
        inputs = list(run.inputs)
        for place, number in zip(places, numbers):
            inputs[place] = number
        if explains(run, outputs, tuple(inputs)):
            return True
    return False


def is_explained(run):
    """Whether some inputs of the lot make the circuit tell the free houses just the outputs that they have."""
    check_run(run)
    if len(led_inputs(run.circuit, run.lot)) > MOST_INPUTS:
        raise TooMany(MOST_INPUTS)
    if run.hall.field > MOST_FIELD:
        raise TooMany(MOST_FIELD)
    return is_explained_run(run)


def is_parted_run(run, inputs):
    """Whether a run, whose free houses have few coins, is parted from inputs."""
    if not are_alike_inputs(run, inputs):
        return False
    view = run.view
    # With all rules the exchange always makes the view; without one it often does.
    if view_with(run, inputs, exchanged_coins(run, inputs)) == view:
        return False
    coins = run.coins
    for row in all_coin_rows(run.hall, run.circuit, run.lot):
        if view_with(run, inputs, {**coins, **row}) == view:
            return False
    return True


def is_parted(run, inputs):
    """Whether alike inputs make the view of the run with no coins of the free houses."""
    check_run(run)
    check_inputs(run.hall, run.circuit, inputs)
    check_rows(run.hall, free_coins(run.hall, run.circuit, run.lot))
    return is_parted_run(run, inputs)


def check_rule(word):
    """Refuse what is no rule."""
    if word not in RULES:
        raise UnknownName(word)


def broken_run(word):
    """The parts of a run that is not explained, or parted, without the rule."""
    check_rule(word)
    return parts_for(word)


def are_run_parts(word, hall, circuit, inputs, coins, lot, lies, lines):
    """Whether these are the parts of a run without a rule."""
    if not isinstance(hall, Hall) or not isinstance(circuit, Circuit) or not fits_hall(hall, circuit):
        return False
    if not are_inputs(hall.field, circuit, inputs) or not are_coins(hall, circuit, hall.places, coins):
        return False
    if not is_foe(hall, lot, word) or lines is not True and lines is not False:
        return False
    return are_lies_of(hall, plan_of(hall, circuit, lines), lot, lies)


def is_wrong_run(word, hall, circuit, inputs, coins, lot, lies, lines):
    """Whether these are the parts of a run that is not explained without the rule."""
    if not are_run_parts(word, hall, circuit, inputs, coins, lot, lies, lines):
        return False
    if len(led_inputs(circuit, lot)) > MOST_INPUTS or hall.field > MOST_FIELD:
        return False
    return not is_explained_run(Run(hall, circuit, inputs, coins, without=word, lot=lot, lines=lines, lies=lies))


def is_parting_run(word, hall, circuit, inputs, coins, lot, lies, others):
    """Whether these are the parts of a run that is parted from other inputs without the rule."""
    if not are_run_parts(word, hall, circuit, inputs, coins, lot, lies, False):
        return False
    if not are_inputs(hall.field, circuit, others):
        return False
    if rows_count(hall.field, free_coins(hall, circuit, lot)) > MAX_ROWS:
        return False
    return is_parted_run(Run(hall, circuit, inputs, coins, without=word, lot=lot, lies=lies), others)


def is_broken_run(word, value):
    """Whether the value tells a run that is not explained, or parted, without the rule."""
    check_rule(word)
    if not isinstance(value, tuple) or len(value) != 8:
        return False
    parts = value[1:]
    if value[0] == "wrong":
        return is_wrong_run(word, *parts)
    return value[0] == "parted" and is_parting_run(word, *parts)
