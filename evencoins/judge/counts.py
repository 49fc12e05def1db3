"""Counted coins: how many rows of coins of the free houses make each view of the lot."""

from evencoins.base.field import rows_count
from evencoins.errors import InvalidOperation, TooMany
from evencoins.judge.views import told_indices
from evencoins.plan.cases import meaning_rows
from evencoins.plan.circuits import meaning_of
from evencoins.talk.courses import Course
from evencoins.talk.frames import Frame
from evencoins.talk.given import check_all_coins, check_foe, check_inputs, free_of
from evencoins.talk.halls import check_talk, needed_coins
from evencoins.talk.letters import check_lot
from evencoins.talk.records import heard_by_lot, view_of, view_with
from evencoins.talk.runs import check_lies
from evencoins.talk.seats import check_without
from evencoins.talk.talks import Talk

MOST_ROWS = 700


def free_coins(hall, circuit, lot):
    """How many coins the free houses have together."""
    return sum([needed_coins(hall, circuit, house) for house in free_of(hall, lot)])


def check_rows(hall, many):
    """Refuse rows of so many numbers if there are too many of them."""
    if rows_count(hall.field, many) > MOST_ROWS:
        raise TooMany(MOST_ROWS)


def row_count(hall, circuit, lot):
    """How many rows of coins the free houses can have."""
    check_talk(hall, circuit)
    check_lot(hall, lot)
    return rows_count(hall.field, free_coins(hall, circuit, lot))


def number_rows(field, many):
    """The ascending list of all rows of so many numbers."""
    rows = [()]
    for _ in range(many):
        rows = [row + (number,) for row in rows for number in range(field)]
    return rows


def all_coin_rows(hall, circuit, lot):
    """The list of the rows of coins, as dicts, by ascending coins."""
    slots = []
    last = 0
    for house in free_of(hall, lot):
        slots.append((house, last, last + needed_coins(hall, circuit, house)))
        last = slots[-1][2]
    return [{house: numbers[first:behind] for house, first, behind in slots}
            for numbers in number_rows(hall.field, last)]


def coin_rows(hall, circuit, lot):
    """All rows of coins of the free houses, one after the other."""
    check_talk(hall, circuit)
    check_lot(hall, lot)
    check_rows(hall, free_coins(hall, circuit, lot))
    for row in all_coin_rows(hall, circuit, lot):
        yield row


def all_courses(talk, inputs, lot, coins, lies):
    """The courses of all rows, row by row."""
    frame = Frame(talk, lot, lies)
    for row in all_coin_rows(talk.room, talk.net, lot):
        yield Course(frame, inputs, {**row, **coins})


def all_views(talk, inputs, lot, coins, lies):
    """The list of the views that the rows make, row by row."""
    return [view_of(course) for course in all_courses(talk, inputs, lot, coins, lies)]


def counted_views(talk, inputs, lot, coins, lies):
    """The dict from the views to their counts, ascending."""
    counts = {}
    first = None
    for course in all_courses(talk, inputs, lot, coins, lies):
        first = course if first is None else first
        heard = heard_by_lot(course)
        counts[heard] = counts.get(heard, 0) + 1
    # All views have the same keys, inputs and coins of the lot: what it heard tells their sequence.
    return {view_with(first, heard): counts[heard] for heard in sorted(counts)}


def check_foe_parts(hall, circuit, lot, coins, lies, without):
    """Refuse what is no lot with its coins and its lies, and too many rows."""
    check_foe(hall, lot, without)
    check_all_coins(hall, circuit, lot, coins)
    check_lies(Talk(hall, circuit, None, False), lot, lies)
    check_without(without)
    check_rows(hall, free_coins(hall, circuit, lot))


def view_counts(hall, circuit, inputs, lot, coins, lies, *, without=None):
    """The dict from the views to the numbers of the rows that make them."""
    check_talk(hall, circuit)
    check_inputs(hall, circuit, inputs)
    check_foe_parts(hall, circuit, lot, coins, lies, without)
    return counted_views(Talk(hall, circuit, without, False), inputs, lot, coins, lies)


def alike_rows(hall, circuit, inputs, lot):
    """All inputs that are alike to these ones, ascending."""
    check_talk(hall, circuit)
    check_inputs(hall, circuit, inputs)
    check_lot(hall, lot)
    check_rows(hall, len([house for house in circuit.houses if house not in lot]))
    choices = [[number] if house in lot else list(range(hall.field)) for number, house in zip(inputs, circuit.houses)]
    rows = [()]
    for choice in choices:
        rows = [row + (number,) for row in rows for number in choice]
    gates = [circuit.outputs[index][0] for index in told_indices(circuit, lot)]
    numbers = meaning_of(hall.field, circuit.gates, inputs)
    told = meaning_rows(hall.field, circuit.gates, list(zip(*rows)), len(rows))
    return tuple([row for at, row in enumerate(rows) if all([told[gate][at] == numbers[gate] for gate in gates])])


def check_both(hall, circuit, one, other, lot, coins, lies, without):
    """Refuse what are not the parts of counts for two inputs; the talk of these parts."""
    check_talk(hall, circuit)
    check_inputs(hall, circuit, one)
    check_inputs(hall, circuit, other)
    check_foe_parts(hall, circuit, lot, coins, lies, without)
    return Talk(hall, circuit, without, False)


def even_or_parted(hall, circuit, one, other, lot, coins, lies, *, without=None):
    """Either the number of the views, which have equal counts, or a view that has unlike ones."""
    talk = check_both(hall, circuit, one, other, lot, coins, lies, without)
    counts = counted_views(talk, one, lot, coins, lies)
    others = counts if one == other else counted_views(talk, other, lot, coins, lies)
    unlike = [view for view in list(counts) + list(others) if counts.get(view, 0) != others.get(view, 0)]
    if not unlike:
        return "even", len(counts)
    return "parted", unlike[0], counts.get(unlike[0], 0), others.get(unlike[0], 0)


def is_strict(value):
    """Whether the value is made of integers, None and tuples alone, as views are."""
    if isinstance(value, tuple):
        return all([is_strict(part) for part in value])
    return value is None or isinstance(value, int) and not isinstance(value, bool)


def is_paper_form(value):
    """Whether the value is a number behind "even", or a view and two unlike counts behind "parted"."""
    if not isinstance(value, tuple) or not value or not is_strict(value[1:]):
        return False
    if value[0] == "even":
        return len(value) == 2
    return value[0] == "parted" and len(value) == 4 and value[2] != value[3]


def is_even_paper(hall, circuit, one, other, lot, coins, lies, value, *, without=None):
    """Whether the value shows that the counts are equal, or that they are not."""
    talk = check_both(hall, circuit, one, other, lot, coins, lies, without)
    if not is_paper_form(value):
        return False
    if value[0] == "even":
        counts = counted_views(talk, one, lot, coins, lies)
        return value[1] == len(counts) and counts == counted_views(talk, other, lot, coins, lies)
    word, view, many, more = value
    if all_views(talk, one, lot, coins, lies).count(view) != many:
        return False
    return all_views(talk, other, lot, coins, lies).count(view) == more


def count_power(hall, circuit, inputs, lot, coins):
    """The exponent k of the count p ** k that each view has if nobody lies."""
    check_talk(hall, circuit)
    check_inputs(hall, circuit, inputs)
    check_foe_parts(hall, circuit, lot, coins, {}, None)
    if hall.kind != "look":
        raise InvalidOperation("a hall in which houses lie")
    counts = list(counted_views(Talk(hall, circuit, None, False), inputs, lot, coins, {}).values())
    found = 0
    while rows_count(hall.field, found) < counts[0]:
        found += 1
    return found
