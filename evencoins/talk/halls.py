"""Halls: houses that talk in rounds; what a circuit needs there."""

from evencoins.base.field import check_field, check_integer, is_ascending, is_integer
from evencoins.codes.square import coins_count
from evencoins.errors import InvalidCircuit, InvalidHall, InvalidOperation, UnknownName
from evencoins.plan.circuits import Circuit
from evencoins.talk.gauges import Gauge

LEAST_HOUSES = 3
MOST_HOUSES = 9
KINDS = ("look", "lie")
LINE_WORDS = ("shares", "rows", "points", "syndromes", "outputs")
WALL_WORDS = ("complaints", "answers", "votes")


class Hall:
    """A field, houses from 1 on, how many of them may be led at most, and what led ones do. It never changes."""

    def __init__(self, field, houses, most, kind):
        check_field(field)
        check_integer(houses, LEAST_HOUSES, min(MOST_HOUSES, field - 1))
        if kind not in KINDS:
            raise UnknownName(kind)
        check_integer(most, 1, (houses - 1) // (2 if kind == "look" else 4))
        self._field = field
        self._houses = houses
        self._most = most
        self._kind = kind
        self._places = tuple(range(1, houses + 1))
        # The numbers with which its houses reckon, and how many coins each number that is dealt needs.
        self.gauge = Gauge(field, houses, most, kind)
        self.coins_each = most if kind == "look" else coins_count(most)

    @property
    def field(self):
        """The field."""
        return self._field

    @property
    def houses(self):
        """How many houses there are."""
        return self._houses

    @property
    def most(self):
        """How many houses may be led at most."""
        return self._most

    @property
    def kind(self):
        """Whether led houses only look, or lie."""
        return self._kind

    @property
    def places(self):
        """The tuple of all houses."""
        return self._places

    def __eq__(self, other):
        if not isinstance(other, Hall) or self._kind != other._kind:
            return False
        return self._field == other._field and self._houses == other._houses and self._most == other._most

    def __str__(self):
        return f"{self._kind} hall of {self._houses} houses, most {self._most}, field {self._field}"

    def is_lot(self, value):
        """Whether the value is an ascending tuple of at most so many houses as may be led."""
        return is_ascending(value, 1, self._houses) and len(value) <= self._most


def check_hall(hall):
    """Refuse what is no hall."""
    if not isinstance(hall, Hall):
        raise InvalidHall("not a hall")


def check_lie_hall(hall):
    """Refuse what is no hall with houses that lie."""
    if not isinstance(hall, Hall) or hall.kind != "lie":
        raise InvalidHall("not a hall in which houses lie")


def is_house(hall, value):
    """Whether the value is a house of the hall."""
    return is_integer(value, 1, hall.houses)


def check_house(hall, house):
    """Refuse what is no house of the hall."""
    check_integer(house, 1, hall.houses)


def check_lines(lines):
    """Refuse what does not tell whether there is no wall."""
    if lines is not True and lines is not False:
        raise InvalidOperation("neither True nor False")


def fits_hall(hall, circuit):
    """Whether all houses of a circuit are of the hall, and its constants and factors are numbers of the field."""
    return circuit.last_house <= hall.houses and circuit.top_number < hall.field


def check_talk(hall, circuit):
    """Refuse what is no hall with a circuit for it."""
    if not isinstance(hall, Hall):
        raise InvalidHall("not a hall")
    if not isinstance(circuit, Circuit) or not fits_hall(hall, circuit):
        raise InvalidCircuit("not a circuit for the hall")


def is_for(hall, value):
    """Whether the value is a circuit for the hall."""
    check_hall(hall)
    return isinstance(value, Circuit) and fits_hall(hall, value)


def batches_of(hall, circuit):
    """All batches, as tuples of pairs of a gate and a dealer."""
    first = tuple([(gate, house) for gate, house in zip(circuit.inputs, circuit.houses)])
    others = [tuple([(gate, house) for gate in level for house in hall.places]) for level in circuit.levels]
    return (first,) + tuple(others)


def batches(hall, circuit):
    """The tuple of all batches."""
    check_talk(hall, circuit)
    return batches_of(hall, circuit)


# An entry of the plan of a talk tells of one round: its word, the number of its batch, or None,
# the word of the text that is told or agreed on, or None, and the phase of the kings, or 0.


def text_entries(hall, word, batch, lines):
    """The entries for a text that all see: one round on the wall, or the rounds in its place."""
    if not lines:
        return [(word, batch, word, 0)]
    entries = [("say", batch, word, 0)]
    for phase in range(1, hall.most + 2):
        entries.append(("tell", batch, word, phase))
        entries.append(("king", batch, word, phase))
    return entries


def batch_entries(hall, batch, lines):
    """The entries for a batch, and for what stands behind it."""
    if hall.kind == "look":
        return [("shares", batch, None, 0)]
    entries = [("rows", batch, None, 0), ("points", batch, None, 0)]
    for word in WALL_WORDS:
        entries.extend(text_entries(hall, word, batch, lines))
    return entries + ([("syndromes", batch, None, 0)] if batch > 0 else [])


def plan_of(hall, circuit, lines):
    """The entries for all rounds."""
    entries = []
    for batch in range(len(circuit.levels) + 1):
        entries.extend(batch_entries(hall, batch, lines))
    return tuple(entries) + (("outputs", None, None, 0),)


def round_kinds(hall, circuit, *, lines=False):
    """The tuple of the words of all rounds."""
    check_talk(hall, circuit)
    check_lines(lines)
    return tuple([word for word, batch, text, phase in plan_of(hall, circuit, lines)])


def rounds(hall, circuit, *, lines=False):
    """How many rounds there are."""
    check_talk(hall, circuit)
    check_lines(lines)
    return len(plan_of(hall, circuit, lines))


def needed_coins(hall, circuit, house):
    """How many coins a house of the hall needs."""
    return (circuit.houses.count(house) + circuit.products) * hall.coins_each


def coins_of(hall, circuit, house):
    """How many coins a house needs."""
    check_talk(hall, circuit)
    check_house(hall, house)
    return needed_coins(hall, circuit, house)


def numbers_told(hall, circuit):
    """How many numbers are told over lines if all follow the rules."""
    check_talk(hall, circuit)
    others = hall.houses - 1
    products = circuit.products
    dealings = len(circuit.inputs) + products * hall.houses
    told = sum([len(houses) for index, houses in circuit.outputs]) * others
    if hall.kind == "look":
        return told + dealings * others
    dealing = others * (hall.most + 1) + hall.houses * others
    return told + dealings * dealing + products * hall.houses * others * (hall.houses - 2 * hall.most - 1)
