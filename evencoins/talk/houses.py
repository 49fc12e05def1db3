"""Houses that follow the rules: what they say, and what they make of what they hear."""

from evencoins.base.field import are_numbers
from evencoins.errors import InvalidCoins, InvalidInputs, InvalidLetter, InvalidNumber, Refused
from evencoins.talk.dealing import by_places
from evencoins.talk.halls import check_lines, check_talk
from evencoins.talk.letters import is_plain
from evencoins.talk.records import columns_by_all, view_by_columns
from evencoins.talk.seats import Seat, check_without
from evencoins.talk.talks import Talk


def check_parts(hall, circuit, number, inputs, coins):
    """Refuse what is no house of a talk, with a number for each of its inputs, and with the coins that it needs.

    Each house behind a round is made by the same way: so this does not take the longer one of other checks.
    """
    check_talk(hall, circuit)
    if not isinstance(number, int) or number is True or not 1 <= number <= hall.houses:
        raise InvalidNumber(number)
    field = hall.field
    many = circuit.houses.count(number)
    if not are_numbers(field, inputs) or len(inputs) != many:
        raise InvalidInputs("not a number for each input of the house")
    if not are_numbers(field, coins) or len(coins) != (many + circuit.products) * hall.coins_each:
        raise InvalidCoins("not the coins that the house needs")


def are_houses(value, hall, barred):
    """Whether the value is a dict from houses, but for the barred one."""
    if not isinstance(value, dict):
        return False
    last = hall.houses
    for key in value:
        if not isinstance(key, int) or key is True or not 1 <= key <= last or key == barred:
            return False
    return True


def are_plain(told):
    """Whether all values of a dict are plain."""
    return all([is_plain(value) for value in list(told.values())])


def ascending(told):
    """The dict with ascending keys."""
    return {key: told[key] for key in sorted(told)} if told else {}


class House:
    """A house that follows the rules, ahead of a round, with all that it has heard. It never changes.

    Ahead of the first round it can lack a seat, which it takes when it first works out something. What it has heard is
    a pair of dicts for each round; but of a house of a course, which is done and needs no seat, `_columns` has the
    words of all rounds with what all houses told it.
    """

    def __init__(self, hall, circuit, number, inputs, coins, *, without=None, lines=False):
        check_parts(hall, circuit, number, inputs, coins)
        check_without(without)
        check_lines(lines)
        self._parts = (hall, circuit, number, inputs, coins, without, lines and hall.kind == "lie")
        self._seat = None
        self._memory = {"round": 1, "over": False, "shares": {}, "dealings": (), "outputs": {}}
        self._heard = ()
        self._columns = None

    @property
    def number(self):
        """The number of the house."""
        return self._parts[2]

    @property
    def round(self):
        """The round that comes next."""
        return self._memory["round"]

    @property
    def is_done(self):
        """Whether no round comes next."""
        return self._memory["over"]

    @property
    def shares(self):
        """The dict from gates to its shares."""
        return {gate: share for gate, share in self._memory["shares"].items()}

    @property
    def dealt(self):
        """The dict from pairs of a batch and an index to its share of this dealing."""
        return {(batch, index): share for batch, (shares, taken) in enumerate(self._memory["dealings"])
                for index, share in enumerate(shares)}

    @property
    def taken(self):
        """The pairs of a batch and an index of all dealings that were taken."""
        return tuple([(batch, index) for batch, (shares, taken) in enumerate(self._memory["dealings"])
                      for index in range(len(shares)) if taken is None or taken[index] == 1])

    @property
    def outputs(self):
        """The dict from the indices of the outputs that it is told to their numbers."""
        return {index: number for index, number in self._memory["outputs"].items()}

    @property
    def view(self):
        """All that it has heard, round by round."""
        if self._columns is None:
            return tuple([({**letters}, {**texts}) for letters, texts in self._heard])
        return view_by_columns(self._parts[0].places, self._parts[2], self._columns)

    def __eq__(self, other):
        return isinstance(other, House) and self._parts == other._parts and self.view == other.view

    def take_seat(self):
        """Have a seat, and in the memory what it says in the round that comes next."""
        if self._seat is None:
            hall, circuit, number, inputs, coins, without, lines = self._parts
            self._seat = Seat(Talk(hall, circuit, without, lines), number, inputs, coins)
            self._memory = self._seat.prepared({**self._memory})

    def secrets(self):
        """The numbers that it deals in the batch that comes next or is under way."""
        if self._memory["over"]:
            return ()
        self.take_seat()
        return self._seat.secrets_at(self._memory)

    def says(self):
        """Its letters to all other houses, and its text."""
        if self._memory["over"]:
            raise Refused(("done",))
        self.take_seat()
        letters = self._memory["letters"]
        own = self._parts[2]
        return {goal: letters[goal] for goal in letters if goal != own}, self._memory["text"]

    def hearing(self, letters, texts):
        """The house behind the round that comes next, in which it hears this."""
        hall, circuit, number, inputs, coins, without, lines = self._parts
        if not are_houses(letters, hall, number) or not are_houses(texts, hall, 0):
            raise InvalidLetter("not letters and texts of houses")
        if self._memory["over"]:
            if not are_plain(letters) or not are_plain(texts):
                raise InvalidLetter("not plain values")
            raise Refused(("done",))
        self.take_seat()
        # What it says in a round on the wall is a text.
        told, barred = (letters, texts) if self._memory["text"] is None else (texts, letters)
        heard = self._seat.counted_of_all(self._memory, told) if barred == {} else None
        if heard is None:
            raise InvalidLetter("not plain values, or letters in a round on the wall, or texts in another one")
        later = House(hall, circuit, number, inputs, coins, without=without, lines=lines)
        later._seat = self._seat
        later._memory = self._seat.behind(self._memory, heard)
        later._heard = self._heard + ((ascending(letters), ascending(texts)),)
        return later


def houses_of(course):
    """The dict from all houses of a course to themselves behind its last round."""
    hall, circuit = course.room, course.net
    without, lines = course.talk.lacks, course.talk.on_lines
    last = len(course.said) + 1
    shares = list(zip(*course.words))
    dealt = [(by_places(columns, hall.houses), taken) for columns, taken in course.dealings]
    columns = columns_by_all(course)
    found = {}
    for at, house in enumerate(hall.places):
        inputs = tuple([course.given[index] for index in course.frame.own[0][at]])
        each = House(hall, circuit, house, inputs, course.drawn[house], without=without, lines=lines)
        dealings = tuple([(rows[at], None if taken is None else taken[at]) for rows, taken in dealt])
        each._memory = {"round": last, "over": True, "shares": dict(enumerate(shares[at])), "dealings": dealings,
                        "outputs": course.opened[house]}
        each._columns = columns[at]
        found[house] = each
    return found
