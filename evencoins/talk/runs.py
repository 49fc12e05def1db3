"""Runs: whole talks of a circuit in a hall, with the lies of a lot."""

from evencoins.errors import InvalidLies, InvalidRun
from evencoins.talk.courses import Course, check_all_coins, check_foe, check_inputs, free_of, heard_by, view_of
from evencoins.talk.gauges import Fit
from evencoins.talk.halls import WALL_WORDS, check_lines, check_talk
from evencoins.talk.houses import Standing, house_at
from evencoins.talk.letters import are_lies_of
from evencoins.talk.seats import check_without
from evencoins.talk.talks import Talk


def check_lies(talk, lot, lies):
    """Refuse what is no table of lies."""
    if not are_lies_of(talk.hall, talk.plan, lot, lies):
        raise InvalidLies("not lies of the lot for this talk")


def course_of(hall, circuit, inputs, coins, without, lot, lines, lies):
    """The course of a run, of parts that are checked in this sequence."""
    check_talk(hall, circuit)
    check_inputs(hall, circuit, inputs)
    check_all_coins(hall, circuit, hall.places, coins)
    check_without(without)
    check_foe(hall, lot, without)
    check_lines(lines)
    talk = Talk(hall, circuit, without, lines)
    check_lies(talk, lot, lies)
    ordered = {house: coins[house] for house in hall.places}
    return Course(talk, inputs, ordered, lot, {key: lies[key] for key in sorted(lies)})


def gate_words(course):
    """The dict from gates to the tuple of the shares of all houses."""
    memories = list(course.memories.values())
    return {gate: tuple([memory["shares"][gate] for memory in memories])
            for gate in range(len(course.talk.circuit.gates))}


def committed_in(course, words):
    """The committed inputs: of led houses that lie what their dealings tell the first free houses."""
    hall = course.talk.hall
    if hall.kind == "look" or not course.foe:
        return course.given
    circuit = course.talk.circuit
    fit = Fit(hall.field, free_of(hall, course.foe)[:hall.most + 1], ())
    return tuple([fit.number_in(words[gate]) if house in course.foe else number
                  for gate, house, number in zip(circuit.inputs, circuit.houses, course.given)])


def all_outputs(course):
    """The dict from pairs of an output and a house that is told to the number that it has."""
    outputs = course.talk.circuit.outputs
    return {(index, house): course.memories[house]["outputs"][index]
            for index, (gate, houses) in enumerate(outputs) for house in houses}


def heard_dicts(course, number):
    """The dict from houses to the pair of the letters and of the texts that each one hears in a round."""
    places = course.talk.hall.places
    if course.talk.plan[number - 1][0] in WALL_WORDS:
        texts = {key[1]: text for key, text in heard_by(course, number, places)}
        return {house: ({}, texts) for house in places}
    found = {house: ({}, {}) for house in places}
    for key, letter in heard_by(course, number, places):
        found[key[2]][0][key[1]] = letter
    return found


def houses_behind(course):
    """The dict from all houses to themselves behind the last round."""
    rows = [heard_dicts(course, number) for number in range(1, len(course.said) + 1)]
    return {house: house_at(Standing(course.seats[house], course.memories[house], tuple([row[house] for row in rows])))
            for house in course.memories}


class Run:
    """A talk of all houses from the first round to the last one. It never changes."""

    def __init__(self, hall, circuit, inputs, coins, *, without=None, lot=(), lines=False, lies=None):
        table = {} if lies is None else lies
        self._course = course_of(hall, circuit, inputs, coins, without, lot, lines, table)
        self._on_lines = lines
        self._words = gate_words(self._course)
        self._committed = committed_in(self._course, self._words)
        self._behind = houses_behind(self._course)

    @property
    def hall(self):
        """The hall."""
        return self._course.talk.hall

    @property
    def circuit(self):
        """The circuit."""
        return self._course.talk.circuit

    @property
    def inputs(self):
        """The inputs that the houses were given."""
        return self._course.given

    @property
    def coins(self):
        """The dict from houses to their coins."""
        return {house: coins for house, coins in self._course.drawn.items()}

    @property
    def lot(self):
        """The led houses."""
        return self._course.foe

    @property
    def lies(self):
        """The dict of the lies."""
        return {key: value for key, value in self._course.table.items()}

    @property
    def lines(self):
        """Whether there is no wall."""
        return self._on_lines

    @property
    def without(self):
        """The rule that is left out, or None."""
        return self._course.talk.without

    @property
    def rounds(self):
        """How many rounds there are."""
        return len(self._course.said)

    @property
    def houses(self):
        """The dict from houses to themselves behind the last round."""
        return {house: each for house, each in self._behind.items()}

    @property
    def letters(self):
        """The dict from (round, from, to) to letters, and texts with 0, as they were told."""
        course = self._course
        return {key: letter for number in range(1, len(course.said) + 1)
                for key, letter in heard_by(course, number, course.talk.hall.places)}

    @property
    def shares(self):
        """The dict from gates to the shares of all houses."""
        return {gate: word for gate, word in self._words.items()}

    @property
    def committed(self):
        """The inputs to which the houses were committed."""
        return self._committed

    @property
    def outputs(self):
        """The dict from pairs of an output and a house that is told to its number."""
        return all_outputs(self._course)

    @property
    def view(self):
        """What the lot has and hears."""
        return view_of(self._course)

    def __eq__(self, other):
        if not isinstance(other, Run) or self._on_lines != other._on_lines:
            return False
        return self._course == other._course

    def __str__(self):
        return f"run of {self.hall.houses} houses, {self.rounds} rounds, lot {self.lot}"


def check_run(run):
    """Refuse what is no run."""
    if not isinstance(run, Run):
        raise InvalidRun("not a run")
