"""What a house of a talk says, and what it makes of what it hears."""

from evencoins.errors import UnknownName
from evencoins.plan.circuits import gate_number, looked_at
from evencoins.talk.dealing import answer_text, answered_rows, are_blank, complaint_text, dealt_letters, held_shares
from evencoins.talk.dealing import open_disputes, own_rows, point_letters, taken_by, texts_of, vote_text
from evencoins.talk.halls import WALL_WORDS
from evencoins.talk.kings import held_behind, most_in_columns
from evencoins.talk.letters import DEEPEST, has_form, is_plain_within
from evencoins.talk.products import own_products

# The rules that a house can leave out.
RULE_WORDS = ("coins", "degree", "complaints", "answers", "votes", "errors", "nearest", "king", "bound")


def check_without(without):
    """Refuse what is neither None nor a rule."""
    if without is not None and without not in RULE_WORDS:
        raise UnknownName(without)


def gate_shares(field, gates, known):
    """The shares of all gates that hang on known ones, by the shares of all inputs and of some products."""
    found = {}
    for index, gate in enumerate(gates):
        if index in known:
            found[index] = known[index]
        elif gate[0] != "product" and all([k in found for k in looked_at(gate)]):
            found[index] = gate_number(field, gate, found)
    return found


def first_spots(houses):
    """For each input of the houses the pair of its house and of its place among the own ones of this house."""
    many = {}
    found = []
    for house in houses:
        place = many.get(house, 0)
        found.append((house, place))
        many[house] = place + 1
    return found


def all_spots(hall, circuit):
    """For each batch and each of its dealings the pair of the dealer, and of its place among the dealer's own ones."""
    others = [[(house, place) for place in range(len(level)) for house in hall.places] for level in circuit.levels]
    return [first_spots(circuit.houses)] + others


class Seat:
    """A house of a talk with its inputs and coins: all that what it says hangs on, but for what it hears.

    What it knows ahead of a round is its memory, a dict that never changes: the round, whether there is none, shares,
    dealings and outputs so far, the entry of the round in the plan, what it says there, and what it keeps from the
    rounds ahead.
    """

    def __init__(self, talk, number, inputs, coins):
        self._talk = talk
        self._hall = talk.room
        self.own = number
        self._given = inputs
        self._drawn = coins
        self._spots = all_spots(talk.room, talk.net)

    def secrets_at(self, memory):
        """The numbers that it deals in the batch of the round that comes next."""
        batch = None if memory["over"] else memory["entry"][1]
        return () if batch is None else self.secrets_in(batch, memory["shares"])

    def secrets_in(self, batch, shares):
        """The numbers that it deals in a batch."""
        if batch == 0:
            return self._given
        return own_products(self._hall, self._talk.net, batch - 1, shares)

    def prepared(self, memory):
        """A new memory: the entry of the round that comes next, and what the house says there, are put to it."""
        if memory["round"] > len(self._talk.plan):
            memory["over"] = True
            return memory
        entry = self._talk.plan[memory["round"] - 1]
        word, batch, text, phase = entry
        is_text = word in WALL_WORDS
        memory["entry"] = entry
        memory["letters"] = {} if is_text else self.letters_in(memory, word, batch, text, phase)
        memory["text"] = self.text_in(memory, text, batch) if is_text else None
        return memory

    def text_in(self, memory, word, batch):
        """Its text that all see."""
        if word == "complaints":
            if self._talk.lacks == "complaints":
                return ()
            return complaint_text(self._hall, memory["made"], memory["points"], self.own)
        if word == "votes":
            if are_blank(memory["complaints"]) and are_blank(memory["answers"]):
                return (1,) * len(memory["rows"])
            answered = answered_rows(memory["answers"])
            quarrels = open_disputes(memory["complaints"], answered)
            return vote_text(self._hall, memory["rows"], answered, quarrels, self.own)
        if are_blank(memory["complaints"]):
            return ()
        secrets = self.secrets_in(batch, memory["shares"])
        coins = self._talk.coins_at(batch, self.own, self._drawn)
        dealt = own_rows(self._hall, self._talk.batches[batch], secrets, coins, self.own)
        return answer_text(self._hall, dealt, memory["complaints"])

    def letters_in(self, memory, word, batch, text, phase):
        """Its letters to all houses, to itself too."""
        if word in ("shares", "rows"):
            secrets = self.secrets_in(batch, memory["shares"])
            coins = self._talk.coins_at(batch, self.own, self._drawn)
            return dealt_letters(self._hall, self._talk.batches[batch], secrets, coins, self.own)
        if word == "points":
            return point_letters(self._hall, memory["rows"])
        if word == "outputs":
            return {goal: self.output_shares(memory, goal) for goal in self._hall.places}
        if word == "syndromes":
            letter = tuple([self._hall.gauge.syndromes_of(dealt) for dealt in memory["fresh"]])
        elif word == "say":
            letter = self.text_in(memory, text, batch)
        elif word == "tell":
            letter = memory["held"]
        else:
            letter = tuple([value for value, many in memory["heard"]]) if phase == self.own else ()
        return {goal: letter for goal in self._hall.places}

    def output_shares(self, memory, goal):
        """Its shares of the outputs that a house is told."""
        outputs = self._talk.net.outputs
        return tuple([memory["shares"][outputs[index][0]] for index in self._talk.goals[goal]])

    def counted_from(self, memory, sender, value):
        """What counts of a plain value that a house told in the round that comes next."""
        texts = ()
        if memory["entry"][0] in ("tell", "king"):
            # What equals the texts that the house holds has their forms.
            texts = memory["held"]
            if value == texts:
                return value
        return self._talk.counted_at(memory["round"], sender, self.own, value, texts)

    def counted_of_all(self, memory, told):
        """The dict from all houses to what counts of what they told, its own part being as it made it.

        It is None if something told is not plain; what has the right form always is.
        """
        word, batch, text, phase = memory["entry"]
        name = text if word == "say" else word
        in_form = word not in ("tell", "king")
        pairs = () if batch is None else self._talk.batches[batch]
        hall = self._hall
        own = self.own
        found = {}
        for sender, many in zip(hall.places, self._talk.members_of_all(name, batch, own)):
            value = told.get(sender)
            if in_form and sender != own and has_form(hall, name, pairs, many, sender, value):
                found[sender] = value
            elif not is_plain_within(value, DEEPEST):
                return None
            elif sender != own:
                found[sender] = self.counted_from(memory, sender, value)
        found[own] = memory["letters"][own] if memory["text"] is None else memory["text"]
        return found

    def behind(self, memory, heard):
        """The memory behind the round that comes next; `heard` has what counts for it of what each house told."""
        word, batch, text, phase = memory["entry"]
        if word == "tell":
            news = {"heard": most_in_columns([heard[sender] for sender in self._hall.places])}
        elif word == "king":
            news = self.behind_king(memory, batch, text, phase, heard[phase])
        elif word in WALL_WORDS:
            news = self.read(memory, word, batch, texts_of(self._hall, heard))
        else:
            news = self.listened(memory, word, batch, heard)
        return self.prepared({**memory, **news, "round": memory["round"] + 1})

    def listened(self, memory, word, batch, heard):
        """What it knows more behind a round over lines, but for those of kings."""
        if word == "shares":
            return self.closed(memory, batch, self.in_sequence(batch, heard), None)
        if word == "rows":
            return {"rows": self.in_sequence(batch, heard)}
        if word == "points":
            return {"points": heard, "made": memory["letters"]}
        if word == "syndromes":
            return self.worked_out(memory, batch, heard)
        if word == "say":
            return {"held": tuple([heard[sender] for sender in self._hall.places])}
        return {"outputs": self.opened_outputs(heard)}

    def in_sequence(self, batch, heard):
        """What was told of each dealing of a batch, by its dealer."""
        return tuple([heard[dealer][place] for dealer, place in self._spots[batch]])

    def behind_king(self, memory, batch, text, phase, told):
        """What it knows more behind a phase of kings, in which the king told these texts."""
        held = memory["held"]
        is_last = phase == self._hall.most + 1
        if not is_last or self._talk.lacks != "king":
            held = held_behind(self._hall, memory["heard"], told)
        if not is_last:
            return {"held": held}
        return self.read(memory, text, batch, held)

    def read(self, memory, word, batch, texts):
        """What it knows more when it holds these texts of all houses."""
        if word != "votes":
            return {word: texts}
        many = len(self._talk.batches[batch])
        taken = (1,) * many if self._talk.lacks == "votes" else taken_by(self._hall, texts)
        answered = {} if self._talk.lacks == "answers" else answered_rows(memory["answers"])
        return self.closed(memory, batch, held_shares(memory["rows"], answered, taken, self.own), taken)

    def closed(self, memory, batch, shares, taken):
        """What it knows more when it has a share of each dealing of a batch; `taken` is None if all are."""
        news = {"dealings": memory["dealings"] + ((shares, taken),)}
        if batch == 0:
            return {**news, "shares": self.with_known(memory, dict(zip(self._talk.net.inputs, shares)))}
        # All houses deal for one product, and then for the next one.
        many = self._hall.houses
        words = [shares[first:first + many] for first in range(0, len(shares), many)]
        if self._hall.kind == "look":
            return {**news, "shares": self.with_products(memory, batch, words, [{}] * len(words))}
        return {**news, "fresh": words}

    def with_known(self, memory, known):
        """The shares of all gates, with some more of inputs or products."""
        circuit = self._talk.net
        return gate_shares(self._hall.field, circuit.gates, {**memory["shares"], **known})

    def with_products(self, memory, batch, words, errors):
        """The shares of all gates, with those of the products of a batch, by the words of dealt numbers."""
        level = self._talk.net.levels[batch - 1]
        if self._talk.lacks == "degree" and self._hall.kind == "look":
            return self.with_known(memory, dict(zip(level, self.secrets_in(batch, memory["shares"]))))
        shares = [self._hall.gauge.product_of(word, off) for word, off in zip(words, errors)]
        return self.with_known(memory, dict(zip(level, shares)))

    def worked_out(self, memory, batch, heard):
        """What it knows more when it has heard all shares of the syndromes of a batch."""
        words = memory["fresh"]
        if self._talk.lacks == "errors":
            return {"shares": self.with_products(memory, batch, words, [{}] * len(words))}
        errors = [self.errors_at(at, heard) for at in range(len(words))]
        return {"shares": self.with_products(memory, batch, words, errors)}

    def errors_at(self, at, heard):
        """The errors that the opened syndromes tell of the product with this place in its level."""
        rows = [heard[sender][at] for sender in self._hall.places]
        told = [self.opened(column) for column in zip(*rows)]
        return self._hall.gauge.errors_with(told, self._hall.most)

    def opened(self, word):
        """The number that the shares of all houses open."""
        if self._hall.kind == "look" or self._talk.lacks == "nearest":
            return self._hall.gauge.first_number(word)
        return self._hall.gauge.main_number(word, self._hall.most)

    def opened_outputs(self, heard):
        """The numbers of the outputs that it is told."""
        own = self._talk.goals[self.own]
        return {index: self.opened([heard[sender][at] for sender in self._hall.places])
                for at, index in enumerate(own)}
