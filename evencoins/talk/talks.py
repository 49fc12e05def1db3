"""What can be told of a talk ahead of its first round, whatever the inputs and the coins are."""

from evencoins.talk.halls import batches_of, coins_each, plan_of
from evencoins.talk.letters import counted, told_outputs


def spots_in(pairs):
    """For each dealing of a batch the pair of its dealer and of its place among the dealer's own ones."""
    many = {}
    found = []
    for gate, dealer in pairs:
        place = many.get(dealer, 0)
        found.append((dealer, place))
        many[dealer] = place + 1
    return found


def own_counts(hall, circuit):
    """For each batch how many dealings of each house it has."""
    first = tuple([circuit.houses.count(house) for house in hall.places])
    return [first] + [(len(level),) * hall.houses for level in circuit.levels]


class Talk:
    """A circuit in a hall, perhaps without a rule, and perhaps without a wall."""

    def __init__(self, hall, circuit, without, lines):
        self._hall = hall
        self._circuit = circuit
        self._without = without
        self._on_lines = lines and hall.kind == "lie"
        self.batches = batches_of(hall, circuit)
        self.plan = plan_of(hall, circuit, lines)
        self.spots = [spots_in(pairs) for pairs in self.batches]
        self._own_counts = own_counts(hall, circuit)
        self._each = coins_each(hall)
        self.goals = {house: told_outputs(circuit, house) for house in hall.places}

    @property
    def hall(self):
        """The hall."""
        return self._hall

    @property
    def circuit(self):
        """The circuit."""
        return self._circuit

    @property
    def without(self):
        """The rule that is left out, or None."""
        return self._without

    def __eq__(self, other):
        if not isinstance(other, Talk) or self._hall != other._hall or self._circuit != other._circuit:
            return False
        return self._without == other._without and self._on_lines == other._on_lines

    def coins_at(self, batch, house, coins):
        """The coins with which a house deals in a batch, of all that it has."""
        many = self._own_counts[batch][house - 1] * self._each
        if batch > 0 and self._without == "coins":
            return (0,) * many
        first = sum([counts[house - 1] for counts in self._own_counts[:batch]]) * self._each
        return coins[first:first + many]

    def members_of_all(self, word, batch, goal):
        """For each sender how many members its letter has that is no list of complaints or answers."""
        if word in ("shares", "rows"):
            return self._own_counts[batch]
        if word == "outputs":
            return (len(self.goals[goal]),) * self._hall.houses
        many = len(self._circuit.levels[batch - 1]) if word == "syndromes" else len(self.batches[batch])
        return (many,) * self._hall.houses

    def counted(self, word, batch, sender, goal, value):
        """What counts of a value that a house told."""
        many = self.members_of_all(word, batch, goal)[sender - 1]
        pairs = () if batch is None else self.batches[batch]
        return counted(self._hall, word, pairs, many, sender, value)

    def texts_counted(self, word, batch, value):
        """What counts of what should be the texts of all houses."""
        many = self._hall.houses
        parts = value if isinstance(value, tuple) and len(value) == many else (None,) * many
        return tuple([self.counted(word, batch, sender, 0, part) for sender, part in zip(self._hall.places, parts)])
