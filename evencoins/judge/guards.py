"""Guards: what goes wrong in runs that leave out a rule."""

from evencoins.base.field import rows_count
from evencoins.errors import TooMany, UnknownName
from evencoins.judge.broken import parts_for
from evencoins.judge.counts import all_coin_rows, check_rows, free_coins, number_rows
from evencoins.judge.views import are_alike_inputs, exchanged_coins, heard_with
from evencoins.plan.cases import meaning_rows
from evencoins.plan.circuits import Circuit, are_inputs, meaning_of
from evencoins.talk.courses import Course
from evencoins.talk.frames import Frame
from evencoins.talk.given import are_coins, check_inputs, is_foe
from evencoins.talk.halls import Hall, fits_hall, plan_of
from evencoins.talk.letters import are_lies_of
from evencoins.talk.records import heard_by_lot
from evencoins.talk.runs import check_run, committed_in, course_in
from evencoins.talk.talks import Talk

RULES = ("coins", "degree", "complaints", "answers", "votes", "errors", "nearest", "king", "bound")
MAX_ROWS = 700
MOST_INPUTS = 2
MOST_FIELD = 31


def led_inputs(circuit, lot):
    """The places of the inputs of a lot."""
    return [place for place, house in enumerate(circuit.houses) if house in lot]


def is_told_by_some(course, outputs):
    """Whether some inputs of the lot, in the place of its own ones, make the circuit tell these outputs.

    All numbers of the last one of them are tried at once.
    """
    field, places = course.room.field, led_inputs(course.net, course.frame.foe)
    if not places:
        return False
    for numbers in number_rows(field, len(places) - 1):
        given = [[number] * field for number in course.given]
        for place, number in zip(places, numbers):
            given[place] = [number] * field
        given[places[-1]] = list(range(field))
        rows = meaning_rows(field, course.net.gates, given, field)
        left = list(range(field))
        for gate, number in outputs:
            left = [at for at in left if rows[gate][at] == number]
        if left:
            return True
    return False


def is_explained_course(course):
    """Whether a course, whose lot has few inputs, is explained."""
    outputs = [(gate, course.opened[house][index]) for index, (gate, houses) in enumerate(course.net.outputs)
               for house in houses if house not in course.frame.foe]
    numbers = meaning_of(course.room.field, course.net.gates, committed_in(course))
    # If the lot has no inputs, these are all that there are.
    return all([numbers[gate] == number for gate, number in outputs]) or is_told_by_some(course, outputs)


def is_explained(run):
    """Whether some inputs of the lot make the circuit tell the free houses just the outputs that they have."""
    check_run(run)
    if len(led_inputs(run.circuit, run.lot)) > MOST_INPUTS:
        raise TooMany(MOST_INPUTS)
    if run.hall.field > MOST_FIELD:
        raise TooMany(MOST_FIELD)
    return is_explained_course(course_in(run))


def is_parted_course(course, inputs):
    """Whether a course, whose free houses have few coins, is parted from inputs."""
    if not are_alike_inputs(course, inputs):
        return False
    right = heard_by_lot(course)
    # With all rules the exchange always makes the view; without one it often does.
    if heard_with(course, inputs, exchanged_coins(course, inputs)) == right:
        return False
    coins = course.drawn
    for row in all_coin_rows(course.room, course.net, course.frame.foe):
        if heard_with(course, inputs, {**coins, **row}) == right:
            return False
    return True


def is_parted(run, inputs):
    """Whether alike inputs make the view of the run with no coins of the free houses."""
    check_run(run)
    check_inputs(run.hall, run.circuit, inputs)
    check_rows(run.hall, free_coins(run.hall, run.circuit, run.lot))
    return is_parted_course(course_in(run), inputs)


def check_rule(word):
    """Refuse what is no rule."""
    if word not in RULES:
        raise UnknownName(word)


def broken_run(word):
    """The parts of a run that is not explained, or parted, without the rule."""
    check_rule(word)
    return parts_for(word)


def are_run_parts(word, hall, circuit, inputs, coins, lot, lies, lines):
    """Whether these are the parts of a run without a rule."""
    if not isinstance(hall, Hall) or not isinstance(circuit, Circuit) or not fits_hall(hall, circuit):
        return False
    if not are_inputs(hall.field, circuit, inputs) or not are_coins(hall, circuit, hall.places, coins):
        return False
    if not is_foe(hall, lot, word) or lines is not True and lines is not False:
        return False
    return are_lies_of(hall, plan_of(hall, circuit, lines), lot, lies)


def course_without(word, hall, circuit, inputs, coins, lot, lies, lines):
    """The course of a run without a rule, of parts that are known to be right."""
    return Course(Frame(Talk(hall, circuit, word, lines), lot, lies), inputs, coins)


def is_wrong_run(word, hall, circuit, inputs, coins, lot, lies, lines):
    """Whether these are the parts of a run that is not explained without the rule."""
    if not are_run_parts(word, hall, circuit, inputs, coins, lot, lies, lines):
        return False
    if len(led_inputs(circuit, lot)) > MOST_INPUTS or hall.field > MOST_FIELD:
        return False
    return not is_explained_course(course_without(word, hall, circuit, inputs, coins, lot, lies, lines))


def is_parting_run(word, hall, circuit, inputs, coins, lot, lies, others):
    """Whether these are the parts of a run that is parted from other inputs without the rule."""
    if not are_run_parts(word, hall, circuit, inputs, coins, lot, lies, False):
        return False
    if not are_inputs(hall.field, circuit, others):
        return False
    if rows_count(hall.field, free_coins(hall, circuit, lot)) > MAX_ROWS:
        return False
    return is_parted_course(course_without(word, hall, circuit, inputs, coins, lot, lies, False), others)


def is_broken_run(word, value):
    """Whether the value tells a run that is not explained, or parted, without the rule."""
    check_rule(word)
    if not isinstance(value, tuple) or len(value) != 8:
        return False
    parts = value[1:]
    if value[0] == "wrong":
        return is_wrong_run(word, *parts)
    return value[0] == "parted" and is_parting_run(word, *parts)
