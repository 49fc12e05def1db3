"""Circuits and runs, line by line."""

from evencoins.base.field import is_field, is_integer
from evencoins.errors import ParseError
from evencoins.plan.circuits import MAX_GATES, MAX_INPUTS, MAX_OUTPUTS, MAX_PRODUCTS, Circuit, are_inputs, indices_of
from evencoins.plan.circuits import is_gate, is_output
from evencoins.talk.given import is_foe
from evencoins.talk.halls import KINDS, LEAST_HOUSES, MOST_HOUSES, Hall, needed_coins, plan_of
from evencoins.talk.letters import MOST_LIES, is_lie_key, walls_of
from evencoins.talk.seats import RULE_WORDS
from evencoins.text.reading import numbers_in, plain_in


class Lines:
    """The lines of a text, and which one is read next."""

    def __init__(self, text):
        parts = text.split("\n")
        self._rows = parts[:-1]
        self._rest = parts[-1]
        self._at = 0

    def has_more(self):
        """Whether a line with an end comes next."""
        return self._at < len(self._rows)

    def next_words(self):
        """The words of the line that comes next; one that lacks, or has no end, is wrong."""
        self.check(self.has_more())
        return self._rows[self._at].split(" ")

    def check(self, fit):
        """Refuse the line that comes next, if it does not fit."""
        if not fit:
            raise ParseError(self._at)

    def step(self, fit):
        """Go behind the line that comes next, if it fits."""
        self.check(fit)
        self._at += 1

    def check_over(self):
        """Refuse what stands behind the last line."""
        self.check(not self.has_more() and self._rest == "")


def can_follow(hall, gates, gate):
    """Whether a gate can stand behind these ones; the hall is None if there is none."""
    if len(gates) == MAX_GATES or not is_gate(gate, len(gates)):
        return False
    if gate[0] == "input":
        return len(indices_of(gates, "input")) < MAX_INPUTS and (hall is None or gate[1] <= hall.houses)
    if gate[0] == "product":
        return len(indices_of(gates, "product")) < MAX_PRODUCTS
    return gate[0] == "sum" or hall is None or gate[-1] < hall.field


def read_gates(lines, hall):
    """The list of the gates of a circuit, up to the first line that tells an output."""
    gates = []
    words = lines.next_words()
    while words[0] != "tell":
        numbers = numbers_in(words[1:])
        lines.check(numbers is not None)
        gate = (words[0],) + numbers
        lines.step(can_follow(hall, gates, gate))
        gates.append(gate)
        words = lines.next_words()
    return gates


def is_next_output(lines, outputs):
    """Whether the line that comes next tells an output: the first one must."""
    if not outputs:
        return True
    return len(outputs) < MAX_OUTPUTS and lines.has_more() and lines.next_words()[0] == "tell"


def circuit_in(lines, hall):
    """The circuit whose lines come next."""
    gates = read_gates(lines, hall)
    outputs = []
    while is_next_output(lines, outputs):
        numbers = numbers_in(lines.next_words()[1:])
        lines.check(numbers is not None and len(numbers) > 0)
        output = (numbers[0], numbers[1:])
        lines.step(is_output(output, len(gates)) and (hall is None or numbers[-1] <= hall.houses))
        outputs.append(output)
    return Circuit(tuple(gates), tuple(outputs))


def circuit_of_text(text):
    """The circuit of which this is the text."""
    lines = Lines(text)
    circuit = circuit_in(lines, None)
    lines.check_over()
    return circuit


def is_hall_row(numbers, kind):
    """Whether the numbers are the field, the houses and the most of a hall of the kind."""
    if numbers is None or len(numbers) != 3 or kind not in KINDS or not is_field(numbers[0]):
        return False
    if not is_integer(numbers[1], LEAST_HOUSES, min(MOST_HOUSES, numbers[0] - 1)):
        return False
    return 1 <= numbers[2] <= (numbers[1] - 1) // (2 if kind == "look" else 4)


def hall_in(lines):
    """The hall, whether there is no wall, and the rule that is left out."""
    words = lines.next_words()
    numbers = numbers_in(words[1:4])
    lines.check(words[0] == "hall" and len(words) >= 5 and is_hall_row(numbers, words[4]))
    is_lines = words[5:6] == ["lines"]
    rest = words[6:] if is_lines else words[5:]
    lines.step(rest == [] or len(rest) == 2 and rest[0] == "without" and rest[1] in RULE_WORDS)
    return Hall(numbers[0], numbers[1], numbers[2], words[4]), is_lines, rest[1] if rest else None


def numbers_behind(lines, word):
    """The numbers of the line that comes next, which begins with this word."""
    words = lines.next_words()
    numbers = numbers_in(words[1:])
    lines.check(words[0] == word and numbers is not None)
    return numbers


def coins_in(lines, hall, circuit):
    """The dict of the coins of all houses."""
    coins = {}
    for house in hall.places:
        numbers = numbers_behind(lines, "coins")
        lines.check(len(numbers) == 1 + needed_coins(hall, circuit, house) and numbers[0] == house)
        lines.step(max(numbers[1:] + (0,)) < hall.field)
        coins[house] = numbers[1:]
    return coins


def plain_part(word):
    """The tuple of the plain value that a word tells, or an empty one."""
    try:
        return (plain_in(word),)
    except ParseError:
        return ()


def lies_in(lines, hall, plan, lot):
    """The dict of all lies, up to the end of the text."""
    walls = walls_of(plan)
    lies = {}
    ahead = (0, 0, 0)
    while lines.has_more():
        words = lines.next_words()
        key = numbers_in(words[1:4])
        lines.check(words[0] == "lie" and len(words) == 5 and key is not None)
        lines.check(hall.kind == "lie" and len(lies) < MOST_LIES)
        lines.check(is_lie_key(walls, hall.houses, lot, key) and key > ahead)
        told = plain_part(words[4])
        lines.step(told != ())
        lies[key] = told[0]
        ahead = key
    return lies


def parts_in(text):
    """The parts of the run of which this is the text, as a dict."""
    lines = Lines(text)
    hall, is_lines, without = hall_in(lines)
    circuit = circuit_in(lines, hall)
    inputs = numbers_behind(lines, "inputs")
    lines.step(are_inputs(hall.field, circuit, inputs))
    coins = coins_in(lines, hall, circuit)
    lot = numbers_behind(lines, "lot")
    lines.step(is_foe(hall, lot, without))
    lies = lies_in(lines, hall, plan_of(hall, circuit, is_lines), lot)
    lines.check_over()
    return {"hall": hall, "circuit": circuit, "inputs": inputs, "coins": coins, "without": without, "lot": lot,
            "lines": is_lines, "lies": lies}
