"""Houses that follow the rules: what they say, and what they make of what they hear."""

from evencoins.base.field import are_numbers
from evencoins.errors import InvalidCoins, InvalidInputs, InvalidLetter, Refused
from evencoins.talk.halls import check_house, check_lines, check_talk, is_house, needed_coins
from evencoins.talk.letters import is_plain
from evencoins.talk.seats import Seat, check_without


def check_own(hall, circuit, number, inputs, coins):
    """Refuse what is not a number for each input of a house, with the coins that it needs."""
    if not are_numbers(hall.field, inputs) or len(inputs) != len(circuit.inputs_of(number)):
        raise InvalidInputs("not a number for each input of the house")
    if not are_numbers(hall.field, coins) or len(coins) != needed_coins(hall, circuit, number):
        raise InvalidCoins("not the coins that the house needs")


def is_heard(value, hall, barred):
    """Whether the value is a dict from houses, but for the barred one, to plain values."""
    if not isinstance(value, dict):
        return False
    return all([is_house(hall, key) and key != barred and is_plain(value[key]) for key in value])


def ascending(told):
    """The dict with ascending keys."""
    return {key: told[key] for key in sorted(told)}


class House:
    """A house that follows the rules, ahead of a round, with all that it has heard. It never changes."""

    def __init__(self, hall, circuit, number, inputs, coins, *, without=None, lines=False):
        check_talk(hall, circuit)
        check_house(hall, number)
        check_own(hall, circuit, number, inputs, coins)
        check_without(without)
        check_lines(lines)
        self._hall = hall
        self._number = number
        self._start = (hall, circuit, number, inputs, coins)
        self._left = (without, lines)
        self._seat = Seat(hall, circuit, number, inputs, coins, without, lines)
        self._memory = self._seat.first_memory()
        self._view = ()

    @property
    def number(self):
        """The number of the house."""
        return self._number

    @property
    def round(self):
        """The round that comes next."""
        return self._memory["round"]

    @property
    def is_done(self):
        """Whether no round comes next."""
        return self._memory["over"]

    @property
    def shares(self):
        """The dict from gates to its shares."""
        return {gate: share for gate, share in self._memory["shares"].items()}

    @property
    def dealt(self):
        """The dict from pairs of a batch and an index to its share of this dealing."""
        return {pair: share for pair, share in self._memory["dealt"].items()}

    @property
    def taken(self):
        """The pairs of a batch and an index of all dealings that were taken."""
        return self._memory["taken"]

    @property
    def outputs(self):
        """The dict from the indices of the outputs that it is told to their numbers."""
        return {index: number for index, number in self._memory["outputs"].items()}

    @property
    def view(self):
        """All that it has heard, round by round."""
        return tuple([(ascending(letters), ascending(texts)) for letters, texts in self._view])

    def __eq__(self, other):
        return isinstance(other, House) and self._seat == other._seat and self._view == other._view

    def secrets(self):
        """The numbers that it deals in the batch that comes next or is under way."""
        return self._seat.secrets_at(self._memory)

    def says(self):
        """Its letters to all other houses, and its text."""
        if self.is_done:
            raise Refused(("done",))
        letters = self._memory["letters"]
        return {goal: letters[goal] for goal in letters if goal != self._number}, self._memory["text"]

    def hearing(self, letters, texts):
        """The house behind the round that comes next, in which it hears this."""
        if not is_heard(letters, self._hall, self._number) or not is_heard(texts, self._hall, 0):
            raise InvalidLetter("not letters and texts of houses")
        if not self.is_done and (letters if self._seat.has_text(self._memory) else texts) != {}:
            raise InvalidLetter("letters in a round on the wall, or texts in another one")
        if self.is_done:
            raise Refused(("done",))
        hall, circuit, number, inputs, coins = self._start
        without, lines = self._left
        house = House(hall, circuit, number, inputs, coins, without=without, lines=lines)
        house._seat = self._seat
        house._memory = self._seat.behind(self._memory, letters, texts)
        house._view = self._view + ((ascending(letters), ascending(texts)),)
        return house
