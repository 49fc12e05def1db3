"""Houses that follow the rules: what they say, and what they make of what they hear."""

from evencoins.base.field import are_numbers
from evencoins.errors import InvalidCoins, InvalidInputs, InvalidLetter, Refused
from evencoins.talk.halls import check_house, check_lines, check_talk, needed_coins
from evencoins.talk.letters import is_plain
from evencoins.talk.seats import Seat, check_without
from evencoins.talk.talks import Talk


def check_own(hall, circuit, number, inputs, coins):
    """Refuse what is not a number for each input of a house, with the coins that it needs."""
    if not are_numbers(hall.field, inputs) or len(inputs) != len(circuit.inputs_of(number)):
        raise InvalidInputs("not a number for each input of the house")
    if not are_numbers(hall.field, coins) or len(coins) != needed_coins(hall, circuit, number):
        raise InvalidCoins("not the coins that the house needs")


def are_houses(value, hall, barred):
    """Whether the value is a dict from houses, but for the barred one."""
    if not isinstance(value, dict):
        return False
    last = hall.houses
    for key in value:
        if not isinstance(key, int) or isinstance(key, bool) or not 1 <= key <= last or key == barred:
            return False
    return True


def are_plain(told):
    """Whether all values of a dict are plain."""
    return all([is_plain(value) for value in list(told.values())])


def ascending(told):
    """The dict with ascending keys."""
    return {key: told[key] for key in sorted(told)} if told else {}


class Standing:
    """A house of a talk behind some rounds: its seat, its memory, and what it has heard round by round."""

    def __init__(self, seat, memory, heard):
        self.seat = seat
        self.memory = memory
        self.heard = heard


def first_standing(hall, circuit, number, inputs, coins, without, lines):
    """A house ahead of the first round."""
    check_talk(hall, circuit)
    check_house(hall, number)
    check_own(hall, circuit, number, inputs, coins)
    check_without(without)
    check_lines(lines)
    seat = Seat(Talk(hall, circuit, without, lines), number, inputs, coins)
    return Standing(seat, seat.first_memory(), ())


class House:
    """A house that follows the rules, ahead of a round, with all that it has heard. It never changes."""

    def __init__(self, hall, circuit, number, inputs, coins, *, without=None, lines=False):
        # A house behind a round is made of its standing alone: all else was checked ahead of the first round.
        if isinstance(hall, Standing):
            self._standing = hall
        else:
            self._standing = first_standing(hall, circuit, number, inputs, coins, without, lines)

    @property
    def number(self):
        """The number of the house."""
        return self._standing.seat.own

    @property
    def round(self):
        """The round that comes next."""
        return self._standing.memory["round"]

    @property
    def is_done(self):
        """Whether no round comes next."""
        return self._standing.memory["over"]

    @property
    def shares(self):
        """The dict from gates to its shares."""
        return {gate: share for gate, share in self._standing.memory["shares"].items()}

    @property
    def dealt(self):
        """The dict from pairs of a batch and an index to its share of this dealing."""
        return {(batch, index): share for batch, (shares, taken) in enumerate(self._standing.memory["dealings"])
                for index, share in enumerate(shares)}

    @property
    def taken(self):
        """The pairs of a batch and an index of all dealings that were taken."""
        return tuple([(batch, index) for batch, (shares, taken) in enumerate(self._standing.memory["dealings"])
                      for index in range(len(shares)) if taken is None or taken[index] == 1])

    @property
    def outputs(self):
        """The dict from the indices of the outputs that it is told to their numbers."""
        return {index: number for index, number in self._standing.memory["outputs"].items()}

    @property
    def view(self):
        """All that it has heard, round by round."""
        return tuple([(ascending(letters), ascending(texts)) for letters, texts in self._standing.heard])

    def __eq__(self, other):
        if not isinstance(other, House) or self._standing.seat != other._standing.seat:
            return False
        return self._standing.heard == other._standing.heard

    def secrets(self):
        """The numbers that it deals in the batch that comes next or is under way."""
        return self._standing.seat.secrets_at(self._standing.memory)

    def says(self):
        """Its letters to all other houses, and its text."""
        if self._standing.memory["over"]:
            raise Refused(("done",))
        letters = self._standing.memory["letters"]
        own = self._standing.seat.own
        return {goal: letters[goal] for goal in letters if goal != own}, self._standing.memory["text"]

    def hearing(self, letters, texts):
        """The house behind the round that comes next, in which it hears this."""
        seat = self._standing.seat
        memory = self._standing.memory
        if not are_houses(letters, seat.hall, seat.own) or not are_houses(texts, seat.hall, 0):
            raise InvalidLetter("not letters and texts of houses")
        if memory["over"]:
            if not are_plain(letters) or not are_plain(texts):
                raise InvalidLetter("not plain values")
            raise Refused(("done",))
        # What it says in a round on the wall is a text.
        told, barred = (letters, texts) if memory["text"] is None else (texts, letters)
        heard = seat.counted_of_all(memory, told) if barred == {} else None
        if heard is None:
            raise InvalidLetter("not plain values, or letters in a round on the wall, or texts in another one")
        news = (ascending(letters), ascending(texts))
        return house_at(Standing(seat, seat.behind(memory, heard), self._standing.heard + (news,)))


def house_at(standing):
    """The house that stands there."""
    return House(standing, None, 0, (), ())
