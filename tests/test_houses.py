"""Stage 14: houses that follow the rules."""

import random

from evencoins.codes.sharing import opened
from evencoins.errors import (
    InvalidCircuit, InvalidCoins, InvalidHall, InvalidInputs, InvalidLetter, InvalidNumber, InvalidOperation, Refused,
    UnknownName,
)
from evencoins.plan.circuits import Circuit
from evencoins.talk.dealing import answers_of, complaints_of, points_for, rows_for, shares_behind, votes_of
from evencoins.talk.halls import Hall, batches, coins_of, round_kinds, rounds
from evencoins.talk.houses import House
from evencoins.talk.kings import kept, most_heard
from evencoins.talk.letters import right_letter
from evencoins.talk.products import errors_told, local_products, opened_number, product_share, syndromes_of
from tests.helper import (
    LARGE, LONG, ODD, PRODUCT, SMALL, WRONG_CIRCUITS, WRONG_HALLS, Case, keyed, nested, wrong_numbers, wrong_rows,
)
from tests.test_halls import BARE, DEEP, LINES, PLAIN, WIDE, WIDEST

RULES = ("coins", "degree", "complaints", "answers", "votes", "errors", "nearest", "king", "bound")
WALL = ("complaints", "answers", "votes")
# Two levels, two outputs for one house, an output that is an input, and one that is a constant.
MIXED = Circuit((
    ("input", 2), ("input", 1), ("constant", 3), ("input", 2), ("product", 0, 1), ("product", 3, 2), ("times", 4, 5),
    ("sum", 6, 5), ("product", 7, 0), ("sum", 8, 2)), ((9, (1, 3)), (0, (1,)), (2, (2, 3)), (4, (3,))))
# Three inputs of one house, and three products in one level.
TRIPLE = Circuit((
    ("input", 3), ("input", 1), ("input", 3), ("input", 3), ("product", 0, 1), ("product", 2, 3), ("product", 1, 1),
    ("sum", 4, 5), ("sum", 7, 6)), ((8, (1, 3)), (4, (2,)), (5, (3,)), (6, (1, 2))))


class Model:
    """A house, told as a talk: what it says is sent out, and what it hears is sent in, round by round."""

    def __init__(self, hall, circuit, number, inputs, coins, without=None, lines=False):
        self.hall, self.circuit, self.number, self.inputs, self.coins = hall, circuit, number, inputs, list(coins)
        self.without, self.lines = without, lines
        self.shares, self.dealt, self.taken, self.outputs, self.secrets = {}, {}, (), {}, inputs
        self.round, self.is_done, self.view = 1, False, ()
        self.talk = self.rounds()
        self.said = next(self.talk)

    def hear(self, letters, texts):
        """What it hears in a round."""
        self.view += ((letters, texts),)
        self.round += 1
        try:
            self.said = self.talk.send((letters, texts))
        except StopIteration:
            self.is_done, self.secrets, self.said = True, (), None

    def others(self, letters):
        """The letters for all other houses."""
        return {goal: letters[goal] for goal in self.hall.places if goal != self.number}, None

    def right(self, word, batch, sender, told):
        """What counts of what a house told."""
        goal = 0 if word in WALL else self.number
        return right_letter(self.hall, self.circuit, word, batch, sender, goal, told.get(sender))

    def lines_round(self, word, batch, mine):
        """A round over lines: what counts of the letters of all houses."""
        letters, _ = yield self.others(mine)
        return {sender: mine[sender] if sender == self.number else self.right(word, batch, sender, letters)
                for sender in self.hall.places}

    def text_round(self, word, batch, text):
        """A text that all see."""
        if not self.lines:
            _, texts = yield {}, text
            return {sender: text if sender == self.number else self.right(word, batch, sender, texts)
                    for sender in self.hall.places}
        letters, _ = yield self.others({goal: text for goal in self.hall.places})
        held = [text if sender == self.number else self.right(word, batch, sender, letters)
                for sender in self.hall.places]
        for phase in range(1, self.hall.most + 2):
            held = yield from self.phase(word, batch, phase, held)
        return dict(zip(self.hall.places, held))

    def texts_in(self, word, batch, letter):
        """The texts of all houses in a letter."""
        if not isinstance(letter, tuple) or len(letter) != self.hall.houses:
            letter = (None,) * self.hall.houses
        return [self.right(word, batch, sender, {sender: text}) for sender, text in zip(self.hall.places, letter)]

    def phase(self, word, batch, phase, held):
        """A phase of a talk of kings."""
        mine = tuple(held)
        letters, _ = yield self.others({goal: mine for goal in self.hall.places})
        told = [self.texts_in(word, batch, mine if sender == self.number else letters.get(sender))
                for sender in self.hall.places]
        heard = [tuple(row[k] for row in told) for k in range(self.hall.houses)]
        mine = tuple(most_heard(column)[0] for column in heard) if phase == self.number else ()
        letters, _ = yield self.others({goal: mine for goal in self.hall.places})
        king = self.texts_in(word, batch, mine if phase == self.number else letters.get(phase))
        if self.without == "king" and phase == self.hall.most + 1:
            return held
        return [kept(self.hall, column, text) for column, text in zip(heard, king)]

    def rounds(self):
        """All rounds."""
        all_batches = batches(self.hall, self.circuit)
        for batch, pairs in enumerate(all_batches):
            if batch:
                self.secrets = local_products(self.hall, self.circuit, batch - 1, self.shares)
            each = self.hall.most if self.hall.kind == "look" else self.hall.most * (self.hall.most + 3) // 2
            many = each * len(self.secrets)
            coins, self.coins = tuple(self.coins[:many]), self.coins[many:]
            if batch and self.without == "coins":
                coins = (0,) * many
            known = {}
            if self.hall.kind == "look":
                yield from self.look_batch(batch, pairs, coins)
            else:
                yield from self.lie_batch(batch, pairs, coins)
            if batch == 0:
                known = {gate: self.dealt[0, index] for index, (gate, _) in enumerate(pairs)}
            else:
                words = {gate: tuple(self.dealt[batch, index] for index, pair in enumerate(pairs) if pair[0] == gate)
                         for gate in self.circuit.levels[batch - 1]}
                errors = {}
                if self.hall.kind == "lie":
                    errors = yield from self.errors_in(batch, words)
                for at, gate in enumerate(words):
                    known[gate] = product_share(self.hall, words[gate], errors.get(gate, {}))
                    if self.without == "degree" and self.hall.kind == "look":
                        known[gate] = self.secrets[at]
            self.shares = self.all_shares({**self.shares, **known})
        self.secrets = ()
        mine = {goal: tuple(self.shares[gate] for gate, houses in self.circuit.outputs if goal in houses)
                for goal in self.hall.places}
        heard = yield from self.lines_round("outputs", None, mine)
        own = [index for index, (_, houses) in enumerate(self.circuit.outputs) if self.number in houses]
        self.outputs = {index: self.opened(tuple(heard[sender][at] for sender in self.hall.places))
                        for at, index in enumerate(own)}

    def look_batch(self, batch, pairs, coins):
        """A batch in a hall in which houses look."""
        mine = rows_for(self.hall, pairs, self.secrets, coins, self.number)
        heard = yield from self.lines_round("shares", batch, mine)
        left = {sender: list(heard[sender]) for sender in heard}
        for index, (_, dealer) in enumerate(pairs):
            self.dealt[batch, index] = left[dealer].pop(0)
            self.taken += ((batch, index),)

    def lie_batch(self, batch, pairs, coins):
        """A batch in a hall in which houses lie."""
        hall, number = self.hall, self.number
        heard = yield from self.lines_round("rows", batch, rows_for(hall, pairs, self.secrets, coins, number))
        left = {sender: list(heard[sender]) for sender in heard}
        rows = tuple(left[dealer].pop(0) for _, dealer in pairs)
        points = yield from self.lines_round("points", batch, points_for(hall, pairs, rows, number))
        text = () if self.without == "complaints" else complaints_of(hall, pairs, rows, points, number)
        complaints = yield from self.text_round("complaints", batch, text)
        text = answers_of(hall, pairs, self.secrets, coins, complaints, number)
        answers = yield from self.text_round("answers", batch, text)
        text = votes_of(hall, pairs, rows, complaints, answers, number)
        votes = yield from self.text_round("votes", batch, text)
        if self.without == "votes":
            votes = {house: (1,) * len(pairs) for house in hall.places}
        if self.without == "answers":
            answers = {house: () for house in hall.places}
        taken, shares = shares_behind(hall, pairs, rows, answers, votes, number)
        for index, share in enumerate(shares):
            self.dealt[batch, index] = share
            if taken[index]:
                self.taken += ((batch, index),)

    def errors_in(self, batch, words):
        """The errors of each product of a level."""
        mine = tuple(syndromes_of(self.hall, word) for word in words.values())
        heard = yield from self.lines_round("syndromes", batch, {goal: mine for goal in self.hall.places})
        found = {}
        for at, gate in enumerate(words):
            columns = zip(*[heard[sender][at] for sender in self.hall.places])
            found[gate] = errors_told(self.hall, tuple(self.opened(column) for column in columns))
        return {} if self.without == "errors" else found

    def opened(self, word):
        """What shares open."""
        if self.without == "nearest":
            return opened(self.hall.field, word, self.hall.most)
        return opened_number(self.hall, word)

    def all_shares(self, known):
        """The shares of all gates that hang on known ones."""
        found = {}
        for index, (word, *parts) in enumerate(self.circuit.gates):
            ahead = parts if word == "sum" else parts[:1] if word == "times" else []
            if index in known:
                found[index] = known[index]
            elif word not in ("input", "product") and all(k in found for k in ahead):
                found[index] = {"constant": lambda: parts[0], "sum": lambda: found[parts[0]] + found[parts[1]],
                                "times": lambda: found[parts[0]] * parts[1]}[word]() % self.hall.field
        return found


def random_numbers(told, field, many):
    """So many numbers."""
    return tuple(told.randrange(field) for _ in range(many))


def start(hall, circuit, inputs, coins, kind=House, **keywords):
    """All houses ahead of the first round."""
    own = {house: tuple(number for number, other in zip(inputs, circuit.houses) if other == house)
           for house in hall.places}
    return {house: kind(hall, circuit, house, own[house], coins[house], **keywords) for house in hall.places}


def random_start(told, hall, circuit):
    """Inputs and coins."""
    inputs = random_numbers(told, hall.field, len(circuit.inputs))
    return inputs, {house: random_numbers(told, hall.field, coins_of(hall, circuit, house)) for house in hall.places}


def bent(told, field, value, wild):
    """A value that looks like this one."""
    if isinstance(value, tuple):
        parts = [bent(told, field, part, wild) for part in value]
        if told.randrange(60) < wild:
            parts = parts[1:] if told.randrange(2) else parts + [told.choice((0, None, ()))]
        return tuple(parts)
    if isinstance(value, int) and told.randrange(12) < wild:
        return told.choice((told.randrange(field), told.randrange(field), told.randrange(2), field, None))
    return value


def told_round(told, hall, said, lot, wild):
    """What all houses tell in a round: letters by pairs, or texts, those of the lot being bent."""
    letters, texts = {}, {}
    for sender in hall.places:
        mine, text = said[sender]
        for goal in mine:
            letters[sender, goal] = bent(told, hall.field, mine[goal], wild) if sender in lot else mine[goal]
        if not mine:
            texts[sender] = bent(told, hall.field, text, wild) if sender in lot else text
            if sender in lot and told.randrange(6) < wild:
                texts[sender] = told.choice((
                    (), ((0, 1, 3),), ((0, 1, 3), (0, 3, 5)), ((0, 2, (1,) * (hall.most + 1)),), None))
    return letters, texts


def with_bools(value):
    """The value with True for 1 and False for 0."""
    if isinstance(value, tuple):
        return tuple(with_bools(part) for part in value)
    return bool(value) if value in (0, 1) else value


def heard_by(goal, letters, texts):
    """What one house hears."""
    return {sender: letter for (sender, to), letter in letters.items() if to == goal}, texts


class ExamplesTest(Case):

    def test_examples(self):
        one = House(SMALL, PRODUCT, 1, (3,), (2, 5))
        self.assertEqual([one.secrets(), one.says(), one.round], [(3,), ({2: (0,), 3: (2,)}, None), 1])
        behind = one.hearing({2: (4,), 3: ()}, {})
        self.assertEqual([behind.shares, behind.secrets(), behind.says()[0], behind.view],
                         [{0: 5, 1: 4}, (6,), {2: (2,), 3: (0,)}, (({2: (4,), 3: ()}, {}),)])


class TalksTest(Case):

    def is_like(self, house, model):
        """The house is what the model is, in all that it has and says."""
        for name in ("number", "round", "is_done", "shares", "dealt", "taken", "outputs", "view"):
            found = getattr(house, name)
            self.assertEqual(found, getattr(model, name), name)
            self.assertEqual(repr(found), repr(getattr(model, name)), name)
        self.assertEqual(house.secrets(), model.secrets)
        if model.is_done:
            self.raises(Refused, ("done",), house.says)
        else:
            self.assertEqual(repr(house.says()), repr(model.said))

    def play(self, told, hall, circuit, lot=(), wild=0, lacking=0, **keywords):
        """A talk with led houses, the houses being compared with models in each round; the houses at the end."""
        inputs, coins = random_start(told, hall, circuit)
        houses = start(hall, circuit, inputs, coins, **keywords)
        models = start(hall, circuit, inputs, coins, Model, **keywords)
        words = round_kinds(hall, circuit, lines=keywords.get("lines", False))
        for word in words:
            for house in hall.places:
                self.is_like(houses[house], models[house])
            said = {house: houses[house].says() for house in hall.places}
            self.assertEqual([text is None for _, text in said.values()], [word not in WALL] * hall.houses)
            letters, texts = told_round(told, hall, said, lot, wild)
            # A text can lack, but then it lacks for all houses.
            texts = {key: texts[key] for key in texts if key not in lot or told.randrange(20) >= lacking}
            for goal in hall.places:
                mine, seen = heard_by(goal, letters, texts)
                mine = {key: mine[key] for key in mine if key not in lot or told.randrange(20) >= lacking}
                before = repr((mine, seen))
                houses[goal] = houses[goal].hearing(dict(reversed(mine.items())), seen)
                models[goal].hear(mine, seen)
                self.assertEqual(repr((mine, seen)), before)
        for house in hall.places:
            self.is_like(houses[house], models[house])
            self.assertTrue(houses[house].is_done)
            self.assertEqual(houses[house].round, rounds(hall, circuit, lines=keywords.get("lines", False)) + 1)
        return inputs, houses

    def is_right(self, hall, circuit, lot, inputs, houses):
        """The free houses have shares on one poly for each gate, and the outputs of the committed inputs."""
        free = [house for house in hall.places if house not in lot]
        committed = list(inputs)
        for at, index in enumerate(circuit.inputs):
            number = self.number_of(hall, [(house, houses[house].shares[index]) for house in free])
            if hall.kind == "lie" and circuit.houses[at] in lot:
                committed[at] = number
            self.assertEqual(number, committed[at])
        meaning = circuit.meaning(hall.field, tuple(committed))
        for gate, right in enumerate(meaning):
            self.assertEqual(self.number_of(hall, [(house, houses[house].shares[gate]) for house in free]), right)
        for house in free:
            self.assertEqual(houses[house].taken, houses[free[0]].taken)
            self.assertEqual(houses[house].outputs, {
                index: meaning[gate] for index, (gate, goals) in enumerate(circuit.outputs) if house in goals})

    def number_of(self, hall, points):
        """The number at 0 of the poly on which all points lie."""
        p, first = hall.field, points[:hall.most + 1]

        def at(x):
            total = 0
            for i, number in first:
                term = number
                for j, _ in first:
                    if i != j:
                        term = term * (x - j) * pow(i - j, -1, p) % p
                total += term
            return total % p
        for place, number in points:
            self.assertEqual(at(place), number)
        return at(0)

    def test_all_follow_the_rules(self):
        told = random.Random(1)
        for hall in (SMALL, LARGE, Hall(5, 4, 1, "look"), Hall(7, 6, 1, "lie"), Hall(997, 5, 2, "look")):
            for circuit in (PLAIN, BARE, PRODUCT, DEEP, MIXED, TRIPLE) if hall.field > 5 else (PLAIN, BARE, PRODUCT, TRIPLE):
                for lines in (False, True):
                    inputs, houses = self.play(told, hall, circuit, lines=lines)
                    self.is_right(hall, circuit, (), inputs, houses)
                    self.assertEqual(len(houses[1].taken), sum(len(batch) for batch in batches(hall, circuit)))

    def test_nine_houses(self):
        told = random.Random(2)
        for hall, circuit, lines in ((WIDEST, DEEP, False), (WIDE, PRODUCT, False), (WIDE, PRODUCT, True)):
            lot = tuple(sorted(told.sample(hall.places, hall.most)))
            wild = 0 if hall.kind == "look" else 3
            inputs, houses = self.play(told, hall, circuit, lot, wild, wild, lines=lines)
            self.is_right(hall, circuit, lot, inputs, houses)

    def test_square_of_a_product_among_nine(self):
        told = random.Random(7)
        hall = Hall(13, 9, 2, "lie")
        circuit = Circuit((("input", 1), ("input", 2), ("product", 0, 1), ("product", 2, 2)), ((3, (1, 2, 3)),))
        for lot, wild, lacking, lines in (((), 0, 0, False), ((2, 4), 0, 20, False), ((1, 9), 4, 2, False),
                                          ((2, 4), 5, 1, True)):
            inputs, houses = self.play(told, hall, circuit, lot, wild, lacking, lines=lines)
            self.is_right(hall, circuit, lot, inputs, houses)

    def test_lies(self):
        told = random.Random(3)
        for circuit in (PLAIN, BARE, PRODUCT, DEEP, MIXED, TRIPLE):
            for index in range(4 if circuit is DEEP else 8):
                for hall in (LARGE, Hall(11, 6, 1, "lie")):
                    lot = (told.choice(hall.places),)
                    inputs, houses = self.play(told, hall, circuit, lot, told.choice((1, 4, 9)), index % 3,
                                               lines=index % 4 == 3)
                    self.is_right(hall, circuit, lot, inputs, houses)

    def test_wrong_letters_in_a_hall_that_looks(self):
        told = random.Random(4)
        for circuit in (PLAIN, PRODUCT, DEEP):
            for _ in range(5):
                self.play(told, SMALL, circuit, (2,), 4, 3)
                self.play(told, Hall(7, 5, 2, "look"), circuit, (1, 4), 4, 3, lines=True)
                self.play(told, Hall(7, 6, 1, "look"), circuit, (1, 4), 9, 3)

    def test_without_a_rule(self):
        told = random.Random(5)
        for word in RULES + (None,):
            for hall, circuit, lines in ((SMALL, MIXED, False), (LARGE, MIXED, False), (LARGE, PRODUCT, True),
                                         (Hall(11, 6, 1, "lie"), PLAIN, True)):
                for wild in (0, 4, 9) if hall.kind == "lie" else (0,):
                    self.play(told, hall, circuit, (told.choice(hall.places),), wild, wild // 4, without=word, lines=lines)


class RulesTest(Case):
    """What the rules do that can be left out, in told talks."""

    def ends(self, hall, circuit, inputs, coins, lies, **keywords):
        """The houses at the end, the lies being told by (round, from, to)."""
        houses = start(hall, circuit, inputs, coins, **keywords)
        for number in range(1, rounds(hall, circuit, lines=keywords.get("lines", False)) + 1):
            said = {house: houses[house].says() for house in hall.places}
            texts = {house: lies.get((number, house, 0), text) for house, (_, text) in said.items() if text is not None}
            houses = {goal: houses[goal].hearing(
                {house: lies.get((number, house, goal), said[house][0][goal]) for house in hall.places
                 if house != goal} if not texts else {}, texts) for goal in hall.places}
        return houses

    def test_coins(self):
        house = House(SMALL, PRODUCT, 1, (3,), (2, 5), without="coins")
        self.assertEqual(house.says(), ({2: (0,), 3: (2,)}, None))
        house = house.hearing({2: (4,), 3: ()}, {})
        self.assertEqual(house.says(), ({2: (6,), 3: (6,)}, None))

    def test_degree(self):
        rows = {1: (2, 1), 2: (4, 3), 3: (5,)}
        circuit = Circuit(PRODUCT.gates, ((2, (3,)),))
        self.assertEqual([self.ends(SMALL, circuit, (3, 5), rows, {}, without=word)[3].outputs for word in (None, "degree")],
                         [{0: 1}, {0: 6}])

    def test_complaints_and_answers_and_votes(self):
        circuit = Circuit((("input", 1),), ((0, (2,)),))
        coins = {1: (2, 4), 2: (), 3: (), 4: (), 5: ()}
        lie = {(1, 1, 3): ((0, 0),)}
        right = self.ends(LARGE, circuit, (3,), coins, lie)
        row = House(LARGE, circuit, 1, (3,), (2, 4)).says()[0][3][0]
        self.assertNotEqual(row, (0, 0))
        self.assertEqual([right[3].shares, right[3].taken, right[2].outputs], [{0: row[0]}, ((0, 0),), {0: 3}])
        for word in ("complaints", "answers"):
            house = self.ends(LARGE, circuit, (3,), coins, lie, without=word)[3]
            self.assertEqual([house.shares, house.taken], [{0: 0}, ((0, 0),)])
        lies = {(1, 1, 3): ((0, 0),), (1, 1, 4): ((1, 1),), (4, 1, 0): ()}
        self.assertEqual(self.ends(LARGE, circuit, (3,), coins, lies)[3].taken, ())
        self.assertEqual(self.ends(LARGE, circuit, (3,), coins, lies)[4].shares, {0: 0})
        self.assertEqual(self.ends(LARGE, circuit, (3,), coins, lies)[4].dealt, {(0, 0): 0})
        house = self.ends(LARGE, circuit, (3,), coins, lies, without="votes")[4]
        self.assertEqual([house.shares, house.taken], [{0: 1}, ((0, 0),)])

    def test_errors(self):
        circuit = Circuit(PRODUCT.gates, ((2, (3,)),))
        coins = {house: (2,) * coins_of(LARGE, circuit, house) for house in LARGE.places}
        # House 4 deals its product, 3, but shows no rows, so that 0 counts for it.
        lies = {(6, 4, goal): None for goal in (1, 2, 3, 5)}
        house = self.ends(LARGE, circuit, (3, 5), coins, lies)[3]
        self.assertEqual([house.outputs, (1, 3) in house.taken, house.dealt[1, 3]], [{0: 1}, False, 0])
        self.assertEqual(self.ends(LARGE, circuit, (3, 5), coins, {}, without="errors")[3].outputs, {0: 1})
        self.assertEqual(self.ends(LARGE, circuit, (3, 5), coins, lies, without="errors")[3].outputs, {0: 2})

    def test_nearest(self):
        circuit = Circuit(PRODUCT.gates, ((2, (3,)),))
        coins = {house: (2,) * coins_of(LARGE, circuit, house) for house in LARGE.places}
        right = self.ends(LARGE, circuit, (3, 5), coins, {})
        for share in range(7):
            told = {(12, 1, 3): (share,)}
            self.assertEqual(self.ends(LARGE, circuit, (3, 5), coins, told)[3].outputs, {0: 1})
            self.assertEqual(self.ends(LARGE, circuit, (3, 5), coins, told, without="nearest")[3].outputs,
                             {0: (2 * share - right[2].shares[2]) % 7})
            told = {(12, 4, 3): (share,)}
            self.assertEqual(self.ends(LARGE, circuit, (3, 5), coins, told, without="nearest")[3].outputs, {0: 1})
        # Syndromes are opened so, too: house 1 tells wrong shares of them.
        told = {(11, 1, goal): ((3, 5),) for goal in (2, 3, 4, 5)}
        self.assertEqual(self.ends(LARGE, circuit, (3, 5), coins, told)[3].outputs, {0: 1})
        self.assertNotEqual(self.ends(LARGE, circuit, (3, 5), coins, told, without="nearest")[3].shares[2],
                            right[3].shares[2])

    def test_king(self):
        circuit = Circuit((("input", 2), ("input", 3)), ((0, (2,)),))
        coins = {house: (1,) * coins_of(LARGE, circuit, house) for house in LARGE.places}
        say = [k + 1 for k, word in enumerate(round_kinds(LARGE, circuit, lines=True)) if word == "say"][0]
        # House 1 tells of itself two texts of complaints, and as the first king keeps the others apart.
        text = ((0, 2, 5),)
        lies = {(say, 1, goal): text if goal < 4 else () for goal in (2, 3, 4, 5)}
        lies.update({(say + 2, 1, goal): (text if goal < 4 else (),) + ((),) * 4 for goal in (2, 3, 4, 5)})
        answered = {}
        for without in (None, "king"):
            houses = start(LARGE, circuit, (3, 4), coins, lines=True, without=without)
            for number in range(1, say + 5):
                said = {house: houses[house].says()[0] for house in LARGE.places}
                houses = {goal: houses[goal].hearing({house: lies.get((number, house, goal), said[house][goal])
                                                      for house in LARGE.places if house != goal}, {})
                          for goal in LARGE.places}
            answered[without] = houses[2].says()[0][1]
        row = House(LARGE, circuit, 2, (3,), (1, 1)).says()[0][1][0]
        self.assertEqual(answered, {None: (), "king": ((0, 1, row),)})


class ObjectTest(Case):

    def test_lacking_letters_count_as_wrong(self):
        told = random.Random(6)
        for hall, circuit in ((SMALL, MIXED), (LARGE, PRODUCT)):
            inputs, coins = random_start(told, hall, circuit)
            one, other = start(hall, circuit, inputs, coins), start(hall, circuit, inputs, coins)
            for word in round_kinds(hall, circuit):
                said = {house: one[house].says() for house in hall.places}
                self.assertEqual(said, {house: other[house].says() for house in hall.places})
                letters, texts = told_round(told, hall, said, (), 0)
                for goal in hall.places:
                    mine, seen = heard_by(goal, letters, texts)
                    lacking = {key: mine[key] for key in mine if key != 2}
                    unseen = {key: seen[key] for key in seen if key not in (2, goal)}
                    one[goal] = one[goal].hearing(lacking, unseen)
                    mine = {**mine, 2: told.choice((None, 5, ((),)))} if 2 in mine else mine
                    seen = {**seen, 2: 7, goal: (1, 2)} if seen else seen
                    other[goal] = other[goal].hearing(mine, seen)
            for house in hall.places:
                for name in ("shares", "dealt", "taken", "outputs"):
                    self.assertEqual(getattr(one[house], name), getattr(other[house], name))

    def test_own_text_counts_as_made(self):
        coins = {house: (1,) * coins_of(LARGE, PLAIN, house) for house in LARGE.places}
        houses = start(LARGE, PLAIN, (1, 2), coins)
        for word in round_kinds(LARGE, PLAIN)[:4]:
            said = {house: houses[house].says() for house in LARGE.places}
            letters, texts = told_round(random, LARGE, said, (), 0)
            houses = {goal: houses[goal].hearing(*heard_by(goal, letters, texts)) for goal in LARGE.places}
        votes = {house: (1, 1) for house in (1, 3, 4)}
        self.assertEqual(houses[2].says(), ({}, (1, 1)))
        for own in ((1, 1), (0, 0), None):
            house = houses[2].hearing({}, {**votes, 2: own})
            self.assertEqual(house.taken, ((0, 0), (0, 1)))
            self.assertEqual(house.view[-1], ({}, {1: (1, 1), 2: own, 3: (1, 1), 4: (1, 1)}))
        self.assertEqual(houses[2].hearing({}, votes).taken, ((0, 0), (0, 1)))
        self.assertEqual(houses[5].hearing({}, {**votes, 5: (0, 0)}).taken, ((0, 0), (0, 1)))
        self.assertEqual(houses[5].hearing({}, {1: (1, 1), 2: (1, 0), 5: (0, 0)}).taken, ())
        self.assertEqual(houses[5].hearing({}, {1: (1, 1), 2: (1, 0), 3: (1, 1), 5: (0, 0)}).taken, ((0, 0),))

    def test_never_changes(self):
        first = House(SMALL, PRODUCT, 1, (3,), (2, 5))

        def all_of(house):
            return repr((house.number, house.round, house.is_done, house.shares, house.dealt, house.taken,
                         house.outputs, house.view, house.secrets(), house.says()))
        before = all_of(first)
        letters = {3: (1,), 2: (4,)}
        second = first.hearing(letters, {})
        self.assertEqual(all_of(first), before)
        after = all_of(second)
        self.assertEqual(list(second.view[0][0]), [2, 3])
        letters[2] = (5,)
        second.shares[0] = 9
        second.dealt.clear()
        second.outputs[7] = 1
        second.view[0][0].clear()
        second.says()[0].clear()
        self.assertEqual([all_of(first), all_of(second)], [before, after])
        self.assertEqual(all_of(first.hearing({2: (4,), 3: (1,)}, {})), after)
        for name in ("number", "round", "is_done", "shares", "dealt", "taken", "outputs", "view"):
            with self.assertRaises(AttributeError):
                setattr(first, name, getattr(first, name))

    def test_not_iterated(self):
        house = House(SMALL, PRODUCT, 1, (3,), (2, 5))
        with self.assertRaises(TypeError):
            iter(house)
        with self.assertRaises(TypeError):
            list(house)

    def test_equal(self):
        circuit = Circuit(PRODUCT.gates, ((2, (1, 2)),))
        makers = [
            lambda: House(SMALL, PRODUCT, 1, (3,), (2, 5)), lambda: House(SMALL, PRODUCT, 1, (3,), (2, 4)),
            lambda: House(SMALL, PRODUCT, 1, (4,), (2, 5)), lambda: House(SMALL, PRODUCT, 2, (3,), (2, 5)),
            lambda: House(SMALL, circuit, 1, (3,), (2, 5)), lambda: House(Hall(11, 3, 1, "look"), PRODUCT, 1, (3,), (2, 5)),
            lambda: House(SMALL, PRODUCT, 1, (3,), (2, 5), without="coins"),
            lambda: House(SMALL, PRODUCT, 1, (3,), (2, 5), without="bound"),
            lambda: House(SMALL, PRODUCT, 1, (3,), (2, 5)).hearing({}, {}),
            lambda: House(SMALL, PRODUCT, 1, (3,), (2, 5)).hearing({2: (0,)}, {}),
            lambda: House(SMALL, PRODUCT, 1, (3,), (2, 5)).hearing({2: (0,), 3: ()}, {}),
            lambda: House(SMALL, PRODUCT, 1, (3,), (2, 5)).hearing({2: (0,), 3: ()}, {}).hearing({}, {}),
            lambda: House(LARGE, PLAIN, 1, (), ()), lambda: House(LARGE, PLAIN, 1, (), (), lines=True),
            lambda: House(LARGE, PLAIN, 1, (), (), without="king", lines=True),
        ]
        for one, maker in enumerate(makers):
            for other, maker2 in enumerate(makers):
                self.assertIs(maker() == maker2(), one == other)
                self.assertIs(maker() != maker2(), one != other)
        self.is_true(House(SMALL, PRODUCT, 1, (3,), (2, 5), lines=True) == makers[0]())
        self.is_true(makers[0]().hearing({3: (), 2: (1,)}, {}) == makers[0]().hearing({2: (1,), 3: ()}, {}))
        house = makers[0]()
        for odd in ODD + (SMALL, (house,)):
            self.is_false(house == odd)
            self.is_true(house != odd)
            self.is_false(odd == house)
        self.assertNotIn(house, ODD)
        self.assertIn(makers[0](), [None, house])

    def test_equal_views(self):
        one = House(SMALL, PLAIN, 2, (1, 2), (3, 4)).hearing({}, {})
        other = House(SMALL, PLAIN, 2, (1, 2), (3, 5)).hearing({}, {})
        self.assertEqual(one.view, other.view)
        self.assertNotEqual(one.shares, other.shares)


class RefusalsTest(Case):

    HALL = (InvalidHall, WRONG_HALLS)
    CIRCUIT = (InvalidCircuit, WRONG_CIRCUITS)
    RULE = (UnknownName, ("rows", "Coins", "", True, False, 0, (), ("coins",), ["coins"], {}, SMALL))
    LINE = (InvalidOperation, LINES[1])

    def test_houses(self):
        call = keyed(House, 5, "without", "lines")
        for hall, each in ((SMALL, 1), (LARGE, 2)):
            for without in (None,) + RULES:
                call(hall, PRODUCT, 1, (3,), (1,) * 2 * each, without, True)
            number = (InvalidNumber, wrong_numbers(1, hall.houses))
            inputs = (InvalidInputs, wrong_rows(7, 1) + ((), (1, 2)))
            coins = (InvalidCoins, wrong_rows(7, 2 * each) + ((), (1,) * (2 * each - 1), (1,) * (2 * each + 1)))
            self.refuses(House, (hall, PRODUCT, 1, (3,), (1,) * 2 * each), (
                self.HALL, self.CIRCUIT, number, inputs, coins))
            self.refuses(call, (hall, PRODUCT, 1, (3,), (1,) * 2 * each, "coins", False), (
                self.HALL, self.CIRCUIT, number, inputs, coins, self.RULE, self.LINE))
        self.raises(InvalidInputs, None, House, LARGE, PRODUCT, 3, (1,), (1,) * 2)
        self.raises(InvalidCoins, None, House, LARGE, PRODUCT, 3, (), (1,) * 4)
        self.assertEqual(House(LARGE, PRODUCT, 3, (), (1,) * 2).secrets(), ())

    PARTS = (True, False, "a", [], {}, [1], LONG, (True,), (0,) * 1001, nested(tuple, 7), PRODUCT)

    def no_dicts(self, hall, own):
        """What are no dicts from houses to plain values; the own house is None if it may tell something."""
        keys = (0, -1, hall.houses + 1, True, None, "2", (2,), LONG) + (() if own is None else (own,))
        return (None, (), [], 1, "", True, PRODUCT, [(2, ())], ((2, ()),)) + tuple({key: ()} for key in keys) + tuple(
            {2: part} for part in self.PARTS) + tuple({2: (), 3: part} for part in self.PARTS)

    def test_lines(self):
        for hall in (SMALL, LARGE):
            house = House(hall, PLAIN, 1, (), ())
            letters = (InvalidLetter, self.no_dicts(hall, 1))
            texts = (InvalidLetter, self.no_dicts(hall, None) + ({2: ()}, {1: ()}, {2: None}))
            self.refuses(house.hearing, ({2: (), 3: None}, {}), (letters, texts))
            for good in ({}, {2: 1, 3: (None, (4,))}, {2: nested(tuple, 6), 3: (0,) * 1000}):
                self.assertEqual(house.hearing(good, {}).view, ((good, {}),))

    def test_texts(self):
        house = House(LARGE, PLAIN, 1, (), ()).hearing({}, {}).hearing({}, {})
        letters = (InvalidLetter, self.no_dicts(LARGE, 1) + ({2: ()}, {2: None}))
        texts = (InvalidLetter, self.no_dicts(LARGE, None))
        self.refuses(house.hearing, ({}, {2: (), 1: None}), (letters, texts))
        self.assertEqual(house.hearing({}, {}).view[-1], ({}, {}))

    def test_nearly_right_letters(self):
        # A letter that equals a right one, but with True for 1 or False for 0, is not plain.
        told = random.Random(8)
        for hall, circuit, lines in ((SMALL, MIXED, False), (LARGE, MIXED, False), (LARGE, PLAIN, True)):
            inputs, coins = random_start(told, hall, circuit)
            houses = start(hall, circuit, inputs, coins, lines=lines)
            seen = set()
            for word in round_kinds(hall, circuit, lines=lines):
                letters, texts = told_round(told, hall, {k: houses[k].says() for k in houses}, (), 0)
                mine, others = heard_by(2, letters, texts)
                for sender, value in list(mine.items()) + list(others.items()):
                    odd = with_bools(value)
                    if repr(odd) != repr(value):
                        self.assertEqual(odd, value)
                        wrong = ({**mine, sender: odd}, others) if mine else (mine, {**others, sender: odd})
                        self.raises(InvalidLetter, None, houses[2].hearing, *wrong)
                        seen.add(word)
                houses = {k: houses[k].hearing(*heard_by(k, letters, texts)) for k in houses}
            self.assertIn("tell" if lines else "votes" if hall is LARGE else "shares", seen)

    def test_done(self):
        house = House(SMALL, PLAIN, 1, (), ()).hearing({}, {}).hearing({}, {})
        self.assertEqual([house.is_done, house.round, house.secrets(), house.outputs, house.shares],
                         [True, 3, (), {0: 0}, {0: 0, 1: 0, 2: 0}])
        self.raises(Refused, ("done",), house.says)
        for letters, texts in (({}, {}), ({2: ()}, {}), ({}, {2: ()}), ({}, {1: None})):
            self.raises(Refused, ("done",), house.hearing, letters, texts)
        for wrong in self.no_dicts(SMALL, 1):
            self.raises(InvalidLetter, None, house.hearing, wrong, {})
        for wrong in self.no_dicts(SMALL, None):
            self.raises(InvalidLetter, None, house.hearing, {}, wrong)
