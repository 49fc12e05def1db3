"""Runs: whole talks of a circuit in a hall, with the lies of a lot."""

from evencoins.errors import InvalidLies, InvalidRun
from evencoins.talk.courses import Course
from evencoins.talk.frames import Frame
from evencoins.talk.gauges import Fit
from evencoins.talk.given import check_all_coins, check_foe, check_inputs, free_of
from evencoins.talk.halls import check_lines, check_talk
from evencoins.talk.houses import houses_of
from evencoins.talk.letters import are_lies_of
from evencoins.talk.records import letters_told, view_of
from evencoins.talk.seats import check_without
from evencoins.talk.talks import Talk


def check_lies(talk, lot, lies):
    """Refuse what is no table of lies."""
    if not are_lies_of(talk.room, talk.plan, lot, lies):
        raise InvalidLies("not lies of the lot for this talk")


def course_of(hall, circuit, inputs, coins, without, lot, lines, lies):
    """The course of a run, of parts that are checked in this sequence."""
    check_talk(hall, circuit)
    check_inputs(hall, circuit, inputs)
    check_all_coins(hall, circuit, hall.places, coins)
    check_without(without)
    check_foe(hall, lot, without)
    check_lines(lines)
    talk = Talk(hall, circuit, without, lines)
    check_lies(talk, lot, lies)
    frame = Frame(talk, lot, {key: lies[key] for key in sorted(lies)})
    return Course(frame, inputs, {house: coins[house] for house in hall.places})


def committed_in(course):
    """The committed inputs: of led houses that lie what their dealings tell the first free houses."""
    hall, circuit, foe = course.talk.room, course.talk.net, course.frame.foe
    if hall.kind == "look" or not any([house in foe for house in circuit.houses]):
        return course.given
    fit = Fit(hall.field, hall.gauge.units, free_of(hall, foe)[:hall.most + 1], ())
    return tuple([fit.number_in(course.words[gate]) if house in foe else number
                  for gate, house, number in zip(circuit.inputs, circuit.houses, course.given)])


def all_outputs(course):
    """The dict from pairs of an output and a house that is told to the number that it has."""
    return {(index, house): course.opened[house][index]
            for index, (gate, houses) in enumerate(course.talk.net.outputs) for house in houses}


class Run:
    """A talk of all houses from the first round to the last one. It never changes."""

    def __init__(self, hall, circuit, inputs, coins, *, without=None, lot=(), lines=False, lies=None):
        table = {} if lies is None else lies
        self._course = course_of(hall, circuit, inputs, coins, without, lot, lines, table)
        self._on_lines = lines
        self._committed = committed_in(self._course)
        # They are worked out once, so that who reads them again and again does not go through all rounds each time.
        self._told = letters_told(self._course)
        self._seen = view_of(self._course)
        self._behind = houses_of(self._course)
        self._results = all_outputs(self._course)

    @property
    def hall(self):
        """The hall."""
        return self._course.talk.room

    @property
    def circuit(self):
        """The circuit."""
        return self._course.talk.net

    @property
    def inputs(self):
        """The inputs that the houses were given."""
        return self._course.given

    @property
    def coins(self):
        """The dict from houses to their coins."""
        return {house: coins for house, coins in self._course.drawn.items()}

    @property
    def lot(self):
        """The led houses."""
        return self._course.frame.foe

    @property
    def lies(self):
        """The dict of the lies."""
        return {key: value for key, value in self._course.frame.table.items()}

    @property
    def lines(self):
        """Whether there is no wall."""
        return self._on_lines

    @property
    def without(self):
        """The rule that is left out, or None."""
        return self._course.talk.lacks

    @property
    def rounds(self):
        """How many rounds there are."""
        return len(self._course.said)

    @property
    def houses(self):
        """The dict from houses to themselves behind the last round."""
        return {house: each for house, each in self._behind.items()}

    @property
    def letters(self):
        """The dict from (round, from, to) to letters, and texts with 0, as they were told."""
        # A loop would look at each key; this copy does not.
        return {**self._told}

    @property
    def shares(self):
        """The dict from gates to the shares of all houses."""
        return dict(enumerate(self._course.words))

    @property
    def committed(self):
        """The inputs to which the houses were committed."""
        return self._committed

    @property
    def outputs(self):
        """The dict from pairs of an output and a house that is told to its number."""
        return {pair: number for pair, number in self._results.items()}

    @property
    def view(self):
        """What the lot has and hears."""
        return self._seen

    def __eq__(self, other):
        if not isinstance(other, Run) or self._on_lines != other._on_lines:
            return False
        return self._course == other._course

    def __str__(self):
        return f"run of {self.hall.houses} houses, {self.rounds} rounds, lot {self.lot}"


def check_run(run):
    """Refuse what is no run."""
    if not isinstance(run, Run):
        raise InvalidRun("not a run")


def course_in(run):
    """The course of a run."""
    return run._course
