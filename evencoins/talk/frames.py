"""What all courses of one talk with the lies of one lot have in common, whatever the inputs and the coins are."""

from evencoins.talk.halls import WALL_WORDS

# The words of the rounds over lines in which each house tells all others the same.
SAME_WORDS = ("say", "tell", "king", "syndromes")


def by_rounds(lies):
    """The dict from rounds to the lists of their lies: sender, goal and what is told."""
    found = {}
    for (number, sender, goal), value in lies.items():
        found.setdefault(number, []).append((sender, goal, value))
    return found


def own_indices(hall, circuit):
    """For each batch the lists of the indices of the dealings of each house: for a product all houses deal in turn."""
    many = hall.houses
    first = [[index for index, owner in enumerate(circuit.houses) if owner == house] for house in hall.places]
    return [first] + [[list(range(place, len(level) * many, many)) for place in range(many)]
                      for level in circuit.levels]


def coin_slots(hall, circuit):
    """For each batch and each of its dealings the dealer, and from where to where its coins stand among its own."""
    each = hall.coins_each
    used = [0] * (hall.houses + 1)
    found = []
    for dealers in [circuit.houses] + [hall.places * len(level) for level in circuit.levels]:
        row = []
        for dealer in dealers:
            first = used[dealer]
            used[dealer] = first + each
            row.append((dealer, first, first + each))
        found.append(row)
    return found


def gate_stages(circuit):
    """For each batch the gates, with their indices, that are worked out behind it: neither inputs nor products."""
    found = [[] for _ in range(len(circuit.levels) + 1)]
    for index, gate in enumerate(circuit.gates):
        if gate[0] not in ("input", "product"):
            found[circuit.depths[index]].append((index, gate))
    return found


class Frame:
    """A talk with the lies of a lot.

    `lied` has the lies by rounds, `lot_keys` the keys of all letters to the lot and of all texts, ascending,
    `seen_lies` those lies that the lot hears itself or that stand on the wall. For each batch `own` has the indices of
    the dealings of each house, `slots` where their coins stand, `fresh` the inputs or products of which all houses have
    shares behind it, and `stages` the other gates that they work out then.
    """

    def __init__(self, talk, lot, lies):
        self.talk = talk
        self.foe = lot
        self.table = lies
        self.lied = by_rounds(lies)
        self.own = own_indices(talk.room, talk.net)
        self.slots = coin_slots(talk.room, talk.net)
        self.fresh = (talk.net.inputs,) + talk.net.levels
        self.stages = gate_stages(talk.net)
        self.lot_ways = self.ways_to(lot)
        self.lot_keys = self.keys_of(self.lot_ways)
        heard = (0,) + lot
        self.seen_lies = {key: value for key, value in lies.items() if key[2] in heard}

    def __eq__(self, other):
        if not isinstance(other, Frame) or self.talk != other.talk:
            return False
        return self.foe == other.foe and self.table == other.table

    def ways_to(self, goals):
        """The list of the pairs of a house and of another one of the goals."""
        return [(sender, goal) for sender in self.talk.room.places for goal in goals if goal != sender]

    def keys_of(self, ways):
        """The list of the keys of all letters that go these ways, and of all texts."""
        found = []
        places = self.talk.room.places
        for number, entry in enumerate(self.talk.plan, start=1):
            if entry[0] in WALL_WORDS:
                found.extend([(number, sender, 0) for sender in places])
            else:
                found.extend([(number, sender, goal) for sender, goal in ways])
        return found

    def changes(self, number, rows):
        """What the lies of a round change, as dicts from senders to what counts, by goals.

        `rows` has what is said by the rules, by senders and goals, as it counts.
        """
        found = {}
        for sender, goal, value in self.lied.get(number, ()):
            said = rows[sender - 1][goal - 1]
            if value != said:
                part = self.talk.counted_at(number, sender, goal, value, said)
                if part != said:
                    parts = found.setdefault(goal, {})
                    parts[sender] = part
        return found
