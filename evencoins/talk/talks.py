"""What can be told of a talk ahead of its first round, whatever the inputs and the coins are."""

from evencoins.talk.halls import batches_of, plan_of
from evencoins.talk.letters import counted, told_outputs


def own_counts(hall, circuit):
    """For each batch how many dealings of each house it has."""
    first = tuple([circuit.houses.count(house) for house in hall.places])
    return [first] + [(len(level),) * hall.houses for level in circuit.levels]


class Talk:
    """A circuit in a hall, perhaps without a rule, and perhaps without a wall.

    `room` is the hall, `net` the circuit, `lacks` the rule that is left out, or None; `goals` has for each house the
    outputs that it is told.
    """

    def __init__(self, hall, circuit, without, lines):
        self.room = hall
        self.net = circuit
        self.lacks = without
        self.on_lines = lines and hall.kind == "lie"
        self.batches = batches_of(hall, circuit)
        self.plan = plan_of(hall, circuit, lines)
        self._own_counts = own_counts(hall, circuit)
        self._each = hall.coins_each
        self.goals = {house: told_outputs(circuit, house) for house in hall.places}

    def __eq__(self, other):
        if not isinstance(other, Talk) or self.room != other.room or self.net != other.net:
            return False
        return self.lacks == other.lacks and self.on_lines == other.on_lines

    def coins_at(self, batch, house, coins):
        """The coins with which a house deals in a batch, of all that it has."""
        many = self._own_counts[batch][house - 1] * self._each
        if batch > 0 and self.lacks == "coins":
            return (0,) * many
        first = sum([counts[house - 1] for counts in self._own_counts[:batch]]) * self._each
        return coins[first:first + many]

    def members_of_all(self, word, batch, goal):
        """For each sender how many members its letter has that is no list of complaints or answers."""
        if word in ("shares", "rows"):
            return self._own_counts[batch]
        if word == "outputs":
            return (len(self.goals[goal]),) * self.room.houses
        many = len(self.net.levels[batch - 1]) if word == "syndromes" else len(self.batches[batch])
        return (many,) * self.room.houses

    def counted_at(self, number, sender, goal, value, texts):
        """What counts of a value that a house told in the round with this number.

        `texts` has texts of all houses that are known to have the right forms, if it is a round of kings.
        """
        word, batch, text, phase = self.plan[number - 1]
        if word == "king" and sender != phase:
            # Nobody asks what others say for the king: they should say nothing.
            return ()
        if word in ("tell", "king"):
            return self.texts_counted(text, batch, value, texts)
        name = text if word == "say" else word
        many = self.members_of_all(name, batch, goal)[sender - 1]
        return counted(self.room, name, () if batch is None else self.batches[batch], many, sender, value)

    def texts_counted(self, word, batch, value, texts):
        """What counts of what should be the texts of all houses; what is among the known texts counts as it is."""
        hall, pairs = self.room, self.batches[batch]
        parts = value if isinstance(value, tuple) and len(value) == hall.houses else (None,) * hall.houses
        return tuple([part if part == text else counted(hall, word, pairs, len(pairs), sender, part)
                      for sender, part, text in zip(hall.places, parts, texts)])
