"""What a house has ahead of the first round, and what it makes of what it hears."""

from evencoins.base.field import sum_of_products
from evencoins.errors import UnknownName
from evencoins.plan.circuits import gate_number, looked_at
from evencoins.talk.dealing import answer_text, complaint_text, dealt_letters, held_shares, own_squares, point_letters
from evencoins.talk.dealing import taken_by, vote_text
from evencoins.talk.halls import WALL_WORDS, batches_of, coins_each, plan_of
from evencoins.talk.kings import held_behind, most_of
from evencoins.talk.letters import counted, members_of, own_indices, told_outputs
from evencoins.talk.products import errors_with, first_number, opened_by_most, own_products, product_weights
from evencoins.talk.products import share_without, syndrome_rows

# The rules that a house can leave out.
RULE_WORDS = ("coins", "degree", "complaints", "answers", "votes", "errors", "nearest", "king", "bound")


def check_without(without):
    """Refuse what is neither None nor a rule."""
    if without is not None and without not in RULE_WORDS:
        raise UnknownName(without)


def gate_shares(field, gates, known):
    """The shares of all gates that hang on known ones, by the shares of all inputs and of some products."""
    found = {}
    for index, gate in enumerate(gates):
        if index in known:
            found[index] = known[index]
        elif gate[0] != "product" and all([k in found for k in looked_at(gate)]):
            found[index] = gate_number(field, gate, found)
    return found


class Seat:
    """All that what a house says hangs on, but for what it hears. Its memories are dicts; none ever changes."""

    def __init__(self, hall, circuit, number, inputs, coins, without, lines):
        self._hall = hall
        self._circuit = circuit
        self._number = number
        self._inputs = inputs
        self._coins = coins
        self._without = without
        self._lines = lines and hall.kind == "lie"
        self._batches = batches_of(hall, circuit)
        self._plan = plan_of(hall, circuit, lines)

    def __eq__(self, other):
        if not isinstance(other, Seat) or self._hall != other._hall or self._circuit != other._circuit:
            return False
        if self._number != other._number or self._inputs != other._inputs or self._coins != other._coins:
            return False
        return self._without == other._without and self._lines == other._lines

    def first_memory(self):
        """The memory ahead of the first round."""
        return self.prepared({"round": 1, "over": False, "shares": {}, "dealt": {}, "taken": (), "outputs": {}})

    def is_over(self, memory):
        """Whether no round comes next."""
        return memory["round"] > len(self._plan)

    def has_text(self, memory):
        """Whether the round that comes next, if there is one, is one on the wall."""
        return self._plan[memory["round"] - 1][0] in WALL_WORDS

    def secrets_at(self, memory):
        """The numbers that it deals in the batch of the round that comes next."""
        batch = None if self.is_over(memory) else self._plan[memory["round"] - 1][1]
        return () if batch is None else self.secrets_in(batch, memory["shares"])

    def secrets_in(self, batch, shares):
        """The numbers that it deals in a batch."""
        if batch == 0:
            return self._inputs
        return own_products(self._hall, self._circuit, batch - 1, shares)

    def coins_in(self, batch):
        """The coins with which it deals them."""
        owned = [len(own_indices(pairs, self._number)) for pairs in self._batches]
        many = owned[batch] * coins_each(self._hall)
        if batch > 0 and self._without == "coins":
            return (0,) * many
        first = sum(owned[:batch]) * coins_each(self._hall)
        return self._coins[first:first + many]

    def prepared(self, memory):
        """The memory, with what the house says in the round that comes next."""
        if self.is_over(memory):
            return {**memory, "over": True}
        word, batch, text, phase = self._plan[memory["round"] - 1]
        if word in WALL_WORDS:
            return {**memory, "letters": {}, "text": self.text_in(memory, text, batch)}
        return {**memory, "letters": self.letters_in(memory, word, batch, text, phase), "text": None}

    def text_in(self, memory, word, batch):
        """Its text for the wall."""
        if word == "complaints":
            if self._without == "complaints":
                return ()
            return complaint_text(self._hall, memory["rows"], memory["points"], self._number)
        if word == "votes":
            return vote_text(self._hall, memory["rows"], memory["complaints"], memory["answers"], self._number)
        secrets = self.secrets_in(batch, memory["shares"])
        squares = own_squares(self._hall, self._batches[batch], secrets, self.coins_in(batch), self._number)
        return answer_text(self._hall, squares, memory["complaints"])

    def letters_in(self, memory, word, batch, text, phase):
        """Its letters to all houses, to itself too."""
        if word in ("shares", "rows"):
            secrets = self.secrets_in(batch, memory["shares"])
            return dealt_letters(self._hall, self._batches[batch], secrets, self.coins_in(batch), self._number)
        if word == "points":
            return point_letters(self._hall, memory["rows"])
        if word == "outputs":
            return {goal: self.output_shares(memory, goal) for goal in self._hall.places}
        if word == "syndromes":
            letter = self.syndromes_in(memory, batch)
        elif word == "say":
            letter = self.text_in(memory, text, batch)
        elif word == "tell":
            letter = memory["held"]
        else:
            letter = tuple([value for value, many in memory["heard"]]) if phase == self._number else ()
        return {goal: letter for goal in self._hall.places}

    def output_shares(self, memory, goal):
        """Its shares of the outputs that a house is told."""
        outputs = self._circuit.outputs
        return tuple([memory["shares"][outputs[index][0]] for index in told_outputs(self._circuit, goal)])

    def dealt_word(self, memory, batch, gate):
        """Its shares of the numbers that all houses have dealt for a product."""
        pairs = self._batches[batch]
        return tuple([memory["dealt"][(batch, index)] for index, pair in enumerate(pairs) if pair[0] == gate])

    def syndromes_in(self, memory, batch):
        """Its shares of the syndromes of all products of a batch."""
        rows = syndrome_rows(self._hall)
        words = [self.dealt_word(memory, batch, gate) for gate in self._circuit.levels[batch - 1]]
        return tuple([tuple([sum_of_products(self._hall.field, row, word) for row in rows]) for word in words])

    def behind(self, memory, letters, texts):
        """The memory behind the round that comes next, in which it hears this."""
        word, batch, text, phase = self._plan[memory["round"] - 1]
        if word in WALL_WORDS:
            heard = self.all_counted(word, batch, texts)
            heard[self._number] = memory["text"]
            news = self.read(memory, word, batch, heard)
        elif word in ("tell", "king"):
            heard = {sender: letters.get(sender) for sender in self._hall.places}
            heard[self._number] = memory["letters"][self._number]
            news = self.in_phase(memory, word, batch, text, phase, heard)
        else:
            heard = self.all_counted(text if word == "say" else word, batch, letters)
            heard[self._number] = memory["letters"][self._number]
            news = self.listened(memory, word, batch, heard)
        return self.prepared({**memory, **news, "round": memory["round"] + 1})

    def all_counted(self, word, batch, told):
        """The dict from all houses to what counts of what they told."""
        return {sender: self.one_counted(word, batch, sender, told.get(sender)) for sender in self._hall.places}

    def one_counted(self, word, batch, sender, value):
        """What counts of a value that a house told."""
        pairs = () if batch is None else self._batches[batch]
        many = members_of(self._circuit, word, batch, pairs, sender, self._number)
        return counted(self._hall, word, pairs, many, sender, value)

    def texts_counted(self, word, batch, value):
        """What counts of what should be the texts of all houses."""
        many = self._hall.houses
        parts = value if isinstance(value, tuple) and len(value) == many else (None,) * many
        return tuple([self.one_counted(word, batch, sender, part)
                      for sender, part in zip(self._hall.places, parts)])

    def listened(self, memory, word, batch, heard):
        """What it knows more behind a round over lines, but for those of kings."""
        if word == "shares":
            return self.closed(memory, batch, self.in_sequence(batch, heard), None)
        if word == "rows":
            return {"rows": self.in_sequence(batch, heard)}
        if word == "points":
            return {"points": heard}
        if word == "syndromes":
            return self.worked_out(memory, batch, heard)
        if word == "say":
            return {"held": tuple([heard[sender] for sender in self._hall.places])}
        return {"outputs": self.opened_outputs(heard)}

    def in_sequence(self, batch, heard):
        """What was told of each dealing of a batch, by its dealer."""
        found = []
        places = {dealer: 0 for dealer in self._hall.places}
        for gate, dealer in self._batches[batch]:
            found.append(heard[dealer][places[dealer]])
            places[dealer] += 1
        return tuple(found)

    def in_phase(self, memory, word, batch, text, phase, heard):
        """What it knows more behind a round of a phase of kings."""
        if word == "tell":
            lists = [self.texts_counted(text, batch, heard[sender]) for sender in self._hall.places]
            return {"heard": tuple([most_of(tuple([row[at] for row in lists])) for at in range(self._hall.houses)])}
        held = memory["held"]
        is_last = phase == self._hall.most + 1
        if not is_last or self._without != "king":
            texts = self.texts_counted(text, batch, heard[phase])
            held = tuple([held_behind(self._hall, pair, part) for pair, part in zip(memory["heard"], texts)])
        if not is_last:
            return {"held": held}
        return self.read(memory, text, batch, {sender: part for sender, part in zip(self._hall.places, held)})

    def read(self, memory, word, batch, texts):
        """What it knows more when it has read the texts of all houses."""
        if word != "votes":
            return {word: texts}
        many = len(self._batches[batch])
        taken = (1,) * many if self._without == "votes" else taken_by(self._hall, many, texts)
        answers = {} if self._without == "answers" else memory["answers"]
        return self.closed(memory, batch, held_shares(memory["rows"], answers, taken, self._number), taken)

    def closed(self, memory, batch, shares, taken):
        """What it knows more when it has a share of each dealing of a batch; `taken` is None if all are."""
        dealt = {pair: share for pair, share in memory["dealt"].items()}
        for index, share in enumerate(shares):
            dealt[(batch, index)] = share
        fits = [index for index in range(len(shares)) if taken is None or taken[index] == 1]
        news = {"dealt": dealt, "taken": memory["taken"] + tuple([(batch, index) for index in fits])}
        if batch == 0:
            return {**news, "shares": self.with_known(memory, dict(zip(self._circuit.inputs, shares)))}
        if self._hall.kind == "look":
            return {**news, "shares": self.with_products({**memory, **news}, batch, {})}
        return news

    def with_known(self, memory, known):
        """The shares of all gates, with some more of inputs or products."""
        return gate_shares(self._hall.field, self._circuit.gates, {**memory["shares"], **known})

    def with_products(self, memory, batch, errors):
        """The shares of all gates, with those of the products of a batch; `errors` has the errors by gates."""
        level = self._circuit.levels[batch - 1]
        if self._without == "degree" and self._hall.kind == "look":
            return self.with_known(memory, dict(zip(level, self.secrets_in(batch, memory["shares"]))))
        factors = product_weights(self._hall)
        words = {gate: self.dealt_word(memory, batch, gate) for gate in level}
        return self.with_known(memory, {gate: share_without(
            self._hall.field, factors, words[gate], errors.get(gate, {})) for gate in level})

    def worked_out(self, memory, batch, heard):
        """What it knows more when it has heard all shares of the syndromes of a batch."""
        errors = {}
        if self._without != "errors":
            for at, gate in enumerate(self._circuit.levels[batch - 1]):
                rows = [heard[sender][at] for sender in self._hall.places]
                errors[gate] = errors_with(self._hall, tuple([self.opened(column) for column in zip(*rows)]))
        return {"shares": self.with_products(memory, batch, errors)}

    def opened(self, word):
        """The number that the shares of all houses open."""
        if self._hall.kind == "look" or self._without == "nearest":
            return first_number(self._hall, word)
        return opened_by_most(self._hall, word)

    def opened_outputs(self, heard):
        """The numbers of the outputs that it is told."""
        own = told_outputs(self._circuit, self._number)
        return {index: self.opened(tuple([heard[sender][at] for sender in self._hall.places]))
                for at, index in enumerate(own)}
