"""Stage 16: views, and the exchange of coins."""

import random

from evencoins.codes.sharing import changed_coins
from evencoins.codes.square import changed_square
from evencoins.errors import (
    InvalidCircuit, InvalidCoins, InvalidHall, InvalidInputs, InvalidLies, InvalidLot, InvalidOperation, InvalidRun,
)
from evencoins.judge.views import are_alike, exchanged, is_exchange, made_view
from evencoins.plan.circuits import Circuit
from evencoins.talk.halls import Hall, coins_of
from evencoins.talk.runs import Run
from tests.helper import (
    LARGE, LONG, ODD, PRODUCT, SMALL, WRONG_CIRCUITS, WRONG_HALLS, Case, all_rows, hiding_row, keyed, wrong_rows,
)
from tests.talks import (
    BOTH, CHAIN, LIE6, LOOK5, LOOK7, RULES, SUM, WIDE, own_of, random_lies, random_lot, random_parts, value_through,
)
from tests.test_halls import BARE, LINES, PLAIN
from tests.test_houses import MIXED, TRIPLE
from tests.test_runs import LOTS, RUN_PARTS, THREE, wrong_coins

RUN = Run(*RUN_PARTS, lot=(3,))
# No outputs for a lot of house 3: all inputs of the others are alike.
HIDDEN = Circuit((("input", 1), ("input", 2), ("product", 0, 1), ("product", 2, 2)), ((3, (1, 2)),))
WRONG_RUNS = (InvalidRun, (None, True, 1, "", (), [], {}, SMALL, SUM, RUN_PARTS, (RUN,), [RUN], RUN.houses[1], LONG))


def meaning_for(run, inputs):
    """What the circuit makes of inputs, with the committed ones of the lot."""
    row = tuple(committed if house in run.lot else number
                for house, number, committed in zip(run.circuit.houses, inputs, run.committed))
    return run.circuit.meaning(run.hall.field, row)


def told_to_lot(run, inputs):
    """The outputs that the lot should be told, by their indices."""
    numbers = meaning_for(run, inputs)
    return {index: numbers[gate] for index, (gate, houses) in enumerate(run.circuit.outputs) if set(houses) & set(run.lot)}


def alike_by(run, inputs):
    """Whether inputs are alike to the lot."""
    own = [number for house, number in zip(run.circuit.houses, inputs) if house in run.lot]
    right = [number for house, number in zip(run.circuit.houses, run.inputs) if house in run.lot]
    return own == right and told_to_lot(run, inputs) == told_to_lot(run, run.inputs)


def same_run(run, inputs, coins):
    """The run with other inputs and coins."""
    return Run(run.hall, run.circuit, inputs, coins, lot=run.lot, lies=run.lies, lines=run.lines, without=run.without)


def dealt_by(run, house, batch):
    """What a house deals in a batch."""
    if batch == 0:
        return list(own_of(run.circuit, run.inputs, house))
    return [run.shares[one][house - 1] * run.shares[other][house - 1] % run.hall.field
            for one, other in [run.circuit.gates[gate][1:] for gate in run.circuit.levels[batch - 1]]]


def exchanged_by(run, inputs):
    """The coins of the exchange, batch by batch: each batch is dealt by a run with the coins that are known so far."""
    hall, coins = run.hall, run.coins
    each = hall.most if hall.kind == "look" else hall.most * (hall.most + 3) // 2
    used = {house: 0 for house in hall.places}
    for batch in range(len(run.circuit.levels) + 1):
        now = same_run(run, inputs, coins)
        for house in hall.places:
            pairs = list(zip(dealt_by(run, house, batch), dealt_by(now, house, batch)))
            for one, other in pairs if house not in run.lot else []:
                first = used[house]
                part = coins[house][first:first + each]
                if hall.kind == "look":
                    part = changed_coins(hall.field, run.lot, part, one, other)
                else:
                    part = changed_square(hall.field, run.lot, part, one, other, hall.most)
                coins[house] = coins[house][:first] + part + coins[house][first + each:]
                used[house] += each
    return coins


def other_inputs(told, run, alike=False):
    """Inputs with the lot's own ones; alike ones, if a few draws find some."""
    for _ in range(60 if alike else 1):
        inputs = tuple(number if house in run.lot else told.randrange(run.hall.field)
                       for house, number in zip(run.circuit.houses, run.inputs))
        if alike_by(run, inputs):
            break
    return inputs


class ExamplesTest(Case):

    def test_examples(self):
        self.assertEqual([are_alike(RUN, (6, 2)), are_alike(RUN, (6, 3)), exchanged(RUN, (6, 2))],
                         [True, False, {1: (1,), 2: (5,), 3: ()}])
        self.assertEqual([is_exchange(RUN, (6, 2), {1: (1,), 2: (5,), 3: ()}),
                          is_exchange(RUN, (6, 2), {1: (1,), 2: (4,), 3: ()})], [True, False])
        self.assertEqual(made_view(THREE, SUM, (3,), {}, {0: 1}, exchanged(RUN, (0, 0))), RUN.view)


class AlikeTest(Case):

    def test_all_inputs(self):
        told = random.Random(1)
        for hall, circuit in ((SMALL, SUM), (SMALL, PRODUCT), (LARGE, BOTH), (LARGE, PLAIN), (LARGE, MIXED)):
            for lot in ((), (1,), (2,), (3,)):
                inputs, coins = random_parts(told, hall, circuit)
                lies = random_lies(told, hall, circuit, lot, many=3)
                run = Run(hall, circuit, inputs, coins, lot=lot, lies=lies)
                for other in all_rows(hall.field, len(inputs))[::1 if len(inputs) < 3 else 3]:
                    self.same(alike_by(run, other), are_alike, run, other)

    def test_committed_inputs_count(self):
        # House 1 is given 1, but commits itself to 0: so whatever house 2 has, the product is 0.
        circuit = Circuit(PRODUCT.gates, ((2, (1,)),))
        coins = {house: (1, 2) * (2 if house < 3 else 1) for house in LARGE.places}
        lies = {(1, 1, goal): None for goal in (2, 3, 4, 5)}
        lies.update({(3, 1, 0): (), (4, 1, 0): ()})
        run = Run(LARGE, circuit, (1, 5), coins, lot=(1,), lies=lies)
        self.assertEqual(run.committed, (0, 5))
        self.assertEqual([are_alike(run, (1, number)) for number in range(7)], [True] * 7)
        self.assertEqual([are_alike(run, (0, number)) for number in range(7)], [False] * 7)
        run = Run(LARGE, circuit, (1, 5), coins, lot=(1,))
        self.assertEqual([are_alike(run, (1, number)) for number in range(7)], [number == 5 for number in range(7)])


class ExchangeTest(Case):

    def is_exchanged(self, told, run, inputs):
        """The exchange is right, and leads back; its view is the same exactly if the inputs are alike."""
        coins = exchanged_by(run, inputs)
        self.same(coins, exchanged, run, inputs)
        alike = alike_by(run, inputs)
        self.same(alike, is_exchange, run, inputs, coins)
        other = same_run(run, inputs, coins)
        self.assertIs(other.view == run.view, alike)
        self.assertEqual(other.committed, tuple(
            committed if house in run.lot else number
            for house, number, committed in zip(run.circuit.houses, inputs, run.committed)))
        self.same(run.coins, exchanged, other, run.inputs)
        for house in run.lot:
            self.assertEqual(coins[house], run.coins[house])
        self.has_one_rule(run, inputs, other)
        if not alike:
            self.differs_in_shares_of_outputs(run, inputs, other)
        return alike

    def has_one_rule(self, run, inputs, other):
        """[16.3] Each sharing has the hiding poly more, as often as its number."""
        hall = run.hall
        row = hiding_row(hall.field, run.lot, 5)
        for gate, (one, two) in enumerate(zip(meaning_for(run, run.inputs), meaning_for(run, inputs))):
            for house in hall.places:
                if house not in run.lot:
                    weight = sum(x * house ** k for k, x in enumerate(row))
                    self.assertEqual((run.shares[gate][house - 1] + (two - one) * weight) % hall.field,
                                     other.shares[gate][house - 1])

    def differs_in_shares_of_outputs(self, run, inputs, other):
        """[16.4] The views differ in the shares of outputs that are told with unlike numbers, and there alone."""
        one, two = told_to_lot(run, run.inputs), told_to_lot(run, inputs)
        odd = {index for index in one if one[index] != two[index]}
        seen = set()
        for (key, letter), (key2, letter2) in zip(run.view[2], other.view[2]):
            self.assertEqual(key, key2)
            if letter != letter2:
                self.assertEqual(key[0], run.rounds)
                self.assertNotIn(key[1], run.lot)
                told = [index for index, (_, houses) in enumerate(run.circuit.outputs) if key[2] in houses]
                seen.update(index for index, x, y in zip(told, letter, letter2) if x != y)
        self.assertEqual(seen, odd)

    def test_halls_that_look(self):
        told = random.Random(2)
        found = {True: 0, False: 0}
        for hall in (SMALL, LOOK5, LOOK7):
            for circuit in (SUM, HIDDEN, BOTH, MIXED, CHAIN, TRIPLE):
                for index in range(6):
                    inputs, coins = random_parts(told, hall, circuit)
                    run = Run(hall, circuit, inputs, coins, lot=random_lot(told, hall), lines=index == 5)
                    found[self.is_exchanged(told, run, other_inputs(told, run, index % 2 == 0))] += 1
        self.assertGreater(min(found.values()), 20)

    def test_halls_that_lie(self):
        told = random.Random(3)
        found = {True: 0, False: 0}
        words = (None, ("rows",), ("points",), ("complaints",), ("answers",), ("votes",), ("syndromes",), ("outputs",))
        for hall, many in ((LARGE, 96), (LIE6, 40)):
            for index in range(many):
                circuit = (HIDDEN, BOTH, PLAIN, CHAIN, PRODUCT, TRIPLE)[index % 6]
                lot = random_lot(told, hall)
                inputs, coins = random_parts(told, hall, circuit)
                lies = random_lies(told, hall, circuit, lot, many=told.choice((2, 6, 10)), words=words[index % 8])
                run = Run(hall, circuit, inputs, coins, lot=lot, lies=lies)
                found[self.is_exchanged(told, run, other_inputs(told, run, index % 2 == 0))] += 1
        self.assertGreater(min(found.values()), 8)

    def test_lots_of_two_among_nine(self):
        told = random.Random(4)
        for lot, circuit in (((1, 2), HIDDEN), ((3, 8), HIDDEN), ((5,), BOTH), ((), PLAIN)):
            inputs, coins = random_parts(told, WIDE, circuit)
            lies = random_lies(told, WIDE, circuit, lot, many=3)
            run = Run(WIDE, circuit, inputs, coins, lot=lot, lies=lies)
            self.is_exchanged(told, run, other_inputs(told, run, True))

    def test_lines(self):
        told = random.Random(5)
        for index in range(8):
            hall, circuit = ((LARGE, HIDDEN), (LIE6, PLAIN), (LARGE, BOTH), (LARGE, PLAIN))[index % 4]
            lot = random_lot(told, hall)
            inputs, coins = random_parts(told, hall, circuit)
            lies = random_lies(told, hall, circuit, lot, True, 3, (None, ("say", "tell", "king"))[index % 2])
            run = Run(hall, circuit, inputs, coins, lot=lot, lies=lies, lines=True)
            self.is_exchanged(told, run, other_inputs(told, run, True))

    def test_every_exchange_is_one(self):
        hall = Hall(5, 3, 1, "look")
        for circuit, inputs, lot in ((SUM, (1, 2), (3,)), (SUM, (1, 2), (1,)), (PLAIN, (1, 4), (3,)), (SUM, (4, 0), ())):
            many = {house: coins_of(hall, circuit, house) for house in hall.places}
            coins = {house: (3,) * many[house] for house in hall.places}
            run = Run(hall, circuit, inputs, coins, lot=lot)
            for other in ((0, 3), (1, 2), (1, 0), (4, 4)):
                if all(x == y for x, y, house in zip(other, inputs, circuit.houses) if house in lot):
                    found = 0
                    for row in all_rows(5, sum(many.values())):
                        left = list(row)
                        table = {house: tuple(left.pop(0) for _ in range(many[house])) for house in hall.places}
                        right = same_run(run, other, table).view == run.view
                        self.assertIs(is_exchange(run, other, table), right)
                        found += right
                    # All rows with the lot's coins that make the view; as many for each alike inputs.
                    own = sum(many[house] for house in lot)
                    if alike_by(run, other):
                        self.assertEqual(found, sum(
                            same_run(run, inputs, table).view == run.view for table in tables(many)))
                    self.assertLessEqual(found, 5 ** (sum(many.values()) - own))

    def test_without_a_rule(self):
        told = random.Random(6)
        for word in RULES:
            inputs, coins = random_parts(told, SMALL, SUM)
            run = Run(SMALL, SUM, inputs, coins, lot=(3,), without=word)
            self.raises(InvalidOperation, None, exchanged, run, inputs)
            self.raises(InvalidInputs, None, exchanged, run, (1, 2, 3))
            self.same(True, is_exchange, run, inputs, coins)
            self.same(True, is_exchange, run, (inputs[0], inputs[1]), dict(reversed(coins.items())))
            self.assertIs(are_alike(run, inputs), True)

    def test_not_true(self):
        # Nobody but house 1 is told what house 2 has, so that each coin of house 1 will do for an empty lot.
        run = Run(THREE, SUM, (3, 5), {1: (2,), 2: (4,), 3: ()})
        for coin in range(7):
            self.assertTrue(is_exchange(run, (3, 5), {1: (coin,), 2: (4,), 3: ()}))
        one = Run(THREE, SUM, (3, 5), {1: (2,), 2: (4,), 3: ()}, lot=(3,))
        self.assertNotEqual(exchanged(run, (6, 2)), exchanged(one, (6, 2)))


def tables(many):
    """All dicts with so many coins for the houses."""
    for row in all_rows(5, sum(many.values())):
        left = list(row)
        yield {house: tuple(left.pop(0) for _ in range(many[house])) for house in many}


class MadeTest(Case):

    def is_made(self, run):
        """The view is made with the coins of the exchange to inputs 0, and of nothing but own inputs and told outputs."""
        zeros = tuple(number if house in run.lot else 0 for house, number in zip(run.circuit.houses, run.inputs))
        own = {gate: number for gate, number, house in zip(run.circuit.inputs, run.inputs, run.circuit.houses)
               if house in run.lot}
        call = keyed(made_view, 6, "lines", "lies")
        self.same(run.view, call, run.hall, run.circuit, run.lot, own, told_to_lot(run, run.inputs),
                  exchanged(run, zeros), run.lines, run.lies)

    def test_made(self):
        told = random.Random(7)
        for hall in (SMALL, LOOK5, LOOK7, LARGE, LIE6):
            for circuit in (SUM, HIDDEN, BOTH, MIXED, CHAIN, PLAIN, BARE):
                for lines in (False, True) if circuit in (BOTH, PLAIN) else (False,):
                    lot = random_lot(told, hall)
                    inputs, coins = random_parts(told, hall, circuit)
                    lies = random_lies(told, hall, circuit, lot, lines, 4)
                    self.is_made(Run(hall, circuit, inputs, coins, lot=lot, lies=lies, lines=lines))

    def test_two_led_houses_among_nine(self):
        told = random.Random(8)
        inputs, coins = random_parts(told, WIDE, BOTH)
        lies = random_lies(told, WIDE, BOTH, (2, 3), many=3)
        self.is_made(Run(WIDE, BOTH, inputs, coins, lot=(2, 3), lies=lies))
        # What led houses tell one another in the last round is as they tell it.
        for lie in (None, (), 5, ((),), (1, 2)):
            self.is_made(Run(WIDE, BOTH, inputs, coins, lot=(2, 3), lies={(12, 2, 3): lie, (12, 3, 2): lie}))

    def test_told_outputs_of_all_kinds(self):
        """What is told need not be what the circuit tells: the shares of the free houses move by the hiding poly."""
        hall = Hall(7, 5, 1, "lie")
        coins = {house: (1, 2) * coins_of(hall, BOTH, house) for house in hall.places}
        coins = {house: row[:coins_of(hall, BOTH, house)] for house, row in coins.items()}
        zero = Run(hall, BOTH, (4, 0), coins, lot=(3,))
        right = told_to_lot(zero, (4, 0))[0]
        for number in range(7):
            view = made_view(hall, BOTH, (3,), {0: 4}, {0: number}, coins)
            self.assertEqual(view[:2], zero.view[:2])
            for (key, letter), (key2, letter2) in zip(view[2], zero.view[2]):
                weight = (1 - key[1] * pow(3, -1, 7)) * (number - right) if key[0] == 12 else 0
                self.assertEqual((key, letter), (key2, tuple((x + weight) % 7 for x in letter2)) if weight else (key2, letter2))
            points = [(house, zero.shares[4][house - 1]) for house in (1, 2, 4, 5)]
            shares = [(key[1], letter[0]) for key, letter in view[2] if key[0] == 12]
            self.assertEqual(value_through(7, shares[:2], 0), number)
            self.assertEqual(len(points), len(shares))


class RefusalsTest(Case):

    def test_inputs(self):
        wrong = (InvalidInputs, wrong_rows(7, 2) + ((), (1,), (1, 2, 3)))
        self.refuses(are_alike, (RUN, (3, 5)), (WRONG_RUNS, wrong))
        self.refuses(exchanged, (RUN, (3, 5)), (WRONG_RUNS, wrong))
        self.refuses(is_exchange, (RUN, (3, 5), None), (WRONG_RUNS, wrong, (None, ())))
        own = Run(*RUN_PARTS, lot=(1,))
        self.assertIs(are_alike(own, (2, 5)), False)
        for inputs in ((2, 5), (0, 0), (5, 3)):
            self.raises(InvalidInputs, None, exchanged, own, inputs)
            for value in ODD + (own.coins,):
                self.raises(InvalidInputs, None, is_exchange, own, inputs, value)
        self.assertEqual(exchanged(own, (3, 6)), {1: (2,), 2: (3,), 3: ()})

    def test_values(self):
        for inputs in ((3, 5), (6, 2)):
            self.judges(is_exchange, (RUN, inputs))
            self.judges(is_exchange, (RUN, inputs), wrong_coins(exchanged(RUN, inputs))[1])
            self.judges(is_exchange, (RUN, inputs), [tuple(exchanged(RUN, inputs).items()), [exchanged(RUN, inputs)]])
        own = Run(*RUN_PARTS, lot=(1,))
        self.is_true(is_exchange(own, (3, 5), own.coins))
        # The coins of the lot are seen, too.
        self.is_false(is_exchange(own, (3, 5), {**own.coins, 1: (3,)}))

    def tables(self, keys):
        """What are no dicts from just these integers, at least one, to numbers."""
        right = {key: 1 for key in keys}
        least = {key: 1 for key in keys[1:]}
        return (InvalidInputs, (
            None, (), 1, "", [], PRODUCT, LONG, {}, least, {**right, 59: 1}, {**right, -1: 1}, {**least, "0": 1},
            {**least, None: 1}, {**least, (keys[0],): 1}, {**right, keys[0]: 7}, {**right, keys[0]: -1},
            {**right, keys[0]: True}, {**right, keys[0]: None}, {**right, keys[0]: (1,)}, {**right, keys[0]: "1"},
            {**right, keys[0]: LONG}, tuple(right.items()), {**least, bool(keys[0]): 1}))

    def test_made(self):
        call = keyed(made_view, 6, "lines", "lies")
        head = ((InvalidHall, WRONG_HALLS), (InvalidCircuit, WRONG_CIRCUITS))
        circuit = Circuit((("input", 2), ("input", 2), ("sum", 0, 1)), ((2, (2, 3)), (0, (2,)), (1, (1, 3))))
        coins = {house: (1, 2) * (2 if house == 2 else 0) for house in LARGE.places}
        wrong = list(wrong_coins({**coins, 1: (), 2: ()})[1])
        coins_wrong = (InvalidCoins, tuple(table for table in wrong if table != coins and not isinstance(table, dict)) + (
            {**coins, 2: (1, 2, 3)}, {**coins, 2: (1, 2, 3, 7)}, {**coins, 1: (1,)}, {**coins, 6: ()}, {}))
        lies = (InvalidLies, ((), [], 1, "", {(1, 1, 2): 0}, {(1, 2, 1): True}, {(3, 2, 1): 0}, {(7, 2, 1): 0}, False))
        self.refuses(call, (LARGE, circuit, (2,), {0: 1, 1: 2}, {0: 3, 1: 0}, coins, False, {(1, 2, 1): ()}), head + (
            LOTS, self.tables((0, 1)), self.tables((0, 1)), coins_wrong, (InvalidOperation, LINES[1]), lies))
        # Without outputs for the lot, and inputs of its own.
        for lot, own, told in (((4,), {}, {}), ((1,), {}, {2: 1}), ((), {}, {})):
            call(LARGE, circuit, lot, own, told, coins, False, None)
            for odd in ({0: 1}, {2: True}, {3: 1}, None, ()):
                self.raises(InvalidInputs, None, call, LARGE, circuit, lot, odd, told, coins, False, None)
                self.raises(InvalidInputs, None, call, LARGE, circuit, lot, own, odd, coins, False, None)
        self.assertEqual(made_view(LARGE, circuit, (4,), {}, {}, coins),
                         call(LARGE, circuit, (4,), {}, {}, coins, False, None))
        self.raises(InvalidInputs, None, call, LARGE, circuit, (2,), {False: 1, True: 2}, {0: 3, 1: 0}, coins, False, {})
        self.raises(InvalidLies, None, keyed(made_view, 6, "lies"), SMALL, SUM, (3,), {}, {0: 1},
                    {1: (2,), 2: (4,), 3: ()}, {(1, 3, 1): ()})
