"""Stage 15: runs."""

import random

from evencoins.errors import (
    InvalidCircuit, InvalidCoins, InvalidHall, InvalidInputs, InvalidLies, InvalidLot, InvalidOperation, UnknownName,
)
from evencoins.plan.circuits import Circuit
from evencoins.talk.halls import Hall, coins_of, round_kinds
from evencoins.talk.houses import House
from evencoins.talk.runs import Run
from tests.helper import (
    LARGE, LONG, ODD, PRODUCT, SMALL, WRONG_CIRCUITS, WRONG_HALLS, Case, keyed, nested, wrong_rows,
)
from tests.talks import (
    BOTH, CHAIN, HALLS, LIE6, LOOK5, LOOK7, RULES, SUM, WALL, WIDE, drive, free_points, is_on_poly, own_of, random_lies,
    random_lot, random_parts, value_through,
)
from tests.test_halls import BARE, DEEP, LINES, PLAIN
from tests.test_houses import MIXED, TRIPLE

THREE = Hall(7, 3, 1, "look")
RUN_PARTS = (THREE, SUM, (3, 5), {1: (2,), 2: (4,), 3: ()})


def all_of(run):
    """All that a run tells."""
    return repr((run.inputs, run.coins, run.lot, run.lies, run.lines, run.without, run.rounds, run.letters, run.shares,
                 run.committed, run.outputs, run.view, str(run), [house.view for house in run.houses.values()]))


class ExamplesTest(Case):

    def test_examples(self):
        run = Run(*RUN_PARTS, lot=(3,))
        self.assertEqual([run.shares, run.outputs, run.rounds, run.committed],
                         [{0: (5, 0, 2), 1: (2, 6, 3), 2: (0, 6, 5)}, {(0, 3): 1}, 2, (3, 5)])
        self.assertEqual(run.view, (
            (), ((3, ()),), (((1, 1, 3), (2,)), ((1, 2, 3), (3,)), ((2, 1, 3), (0,)), ((2, 2, 3), (6,)))))
        self.raises(InvalidCoins, None, Run, THREE, SUM, (3, 5), {1: (2,), 2: (), 3: ()})


class DrivenTest(Case):

    def committed_by(self, hall, circuit, inputs, lot, shares):
        """The committed inputs, by the shares of the first free houses."""
        if hall.kind == "look":
            return inputs
        return tuple(value_through(hall.field, free_points(hall, lot, shares[gate])[:hall.most + 1], 0)
                     if owner in lot else number for gate, owner, number in zip(circuit.inputs, circuit.houses, inputs))

    def is_driven(self, hall, circuit, inputs, coins, lot=(), lies=None, **keywords):
        """The run is what houses make that are driven round by round; the run."""
        table = lies or {}
        before = repr((inputs, coins, lot, lies))
        run = Run(hall, circuit, inputs, coins, lot=lot, lies=lies, **keywords)
        houses, letters = drive(hall, circuit, inputs, coins, table, **keywords)
        self.assertEqual(repr((inputs, coins, lot, lies)), before)
        self.assertEqual(repr(run.letters), repr(letters))
        self.assertEqual(run.rounds, len(round_kinds(hall, circuit, lines=keywords.get("lines", False))))
        self.assertEqual(list(run.houses), list(hall.places))
        self.assertEqual(run.houses, houses)
        for house in hall.places:
            found, right = run.houses[house], houses[house]
            self.assertIs(type(found), House)
            self.assertEqual([found.shares, found.dealt, found.taken, found.outputs, found.round, found.is_done],
                             [right.shares, right.dealt, right.taken, right.outputs, right.round, True])
            self.assertEqual(repr(found.view), repr(right.view))
        shares = {gate: tuple(houses[house].shares[gate] for house in hall.places) for gate in range(len(circuit.gates))}
        self.assertEqual(repr(run.shares), repr(shares))
        outputs = {(index, house): houses[house].outputs[index]
                   for index, (_, told) in enumerate(circuit.outputs) for house in told}
        self.assertEqual(repr(run.outputs), repr(outputs))
        self.assertEqual(run.committed, self.committed_by(hall, circuit, inputs, lot, shares))
        own = tuple((gate, number) for gate, number, house in zip(circuit.inputs, inputs, circuit.houses) if house in lot)
        heard = tuple((key, letters[key]) for key in sorted(letters) if key[2] in lot + (0,))
        self.assertEqual(repr(run.view), repr((own, tuple((house, coins[house]) for house in lot), heard)))
        parts = (run.hall, run.circuit, run.inputs, run.coins, run.lot, run.lies, run.lines, run.without)
        self.assertEqual(parts, (hall, circuit, inputs, coins, lot, table, keywords.get("lines", False),
                                 keywords.get("without")))
        self.assertEqual([list(run.coins), list(run.lies)], [list(hall.places), sorted(table)])
        return run

    def is_right(self, run):
        """[15.4] and [15.5] Free shares lie on one poly each, and free outputs are those of the committed inputs."""
        hall, circuit = run.hall, run.circuit
        for gate, number in enumerate(circuit.meaning(hall.field, run.committed)):
            points = free_points(hall, run.lot, run.shares[gate])
            self.assertTrue(is_on_poly(hall.field, points, hall.most))
            self.assertEqual(value_through(hall.field, points[:hall.most + 1], 0), number)
        told = circuit.told(hall.field, run.committed)
        for (index, house), number in run.outputs.items():
            if house not in run.lot:
                self.assertEqual(number, told[index])
        for owner, number, committed in zip(circuit.houses, run.inputs, run.committed):
            if owner not in run.lot or hall.kind == "look":
                self.assertEqual(number, committed)

    def test_all_follow_the_rules(self):
        told = random.Random(1)
        for hall in HALLS:
            for circuit in (PLAIN, BARE, PRODUCT, MIXED, CHAIN, TRIPLE) if hall is not WIDE else (PRODUCT,):
                inputs, coins = random_parts(told, hall, circuit)
                run = self.is_driven(hall, circuit, inputs, coins, random_lot(told, hall))
                self.is_right(run)
                self.assertEqual(run.committed, inputs)

    def test_lies(self):
        told = random.Random(2)
        for hall, many in ((LARGE, 24), (LIE6, 10), (WIDE, 3)):
            for index in range(many):
                circuit = (PLAIN, PRODUCT, MIXED, DEEP, CHAIN, BOTH, TRIPLE)[index % 7] if hall is not WIDE else PRODUCT
                lot = random_lot(told, hall)
                inputs, coins = random_parts(told, hall, circuit)
                lies = random_lies(told, hall, circuit, lot, many=told.choice((1, 5, 10)))
                self.is_right(self.is_driven(hall, circuit, inputs, coins, lot, lies))

    def test_lies_in_one_round(self):
        told = random.Random(3)
        for word in ("rows", "points", "complaints", "answers", "votes", "syndromes", "outputs"):
            for circuit in (PRODUCT, MIXED):
                lot = (told.choice(LARGE.places),)
                inputs, coins = random_parts(told, LARGE, circuit)
                lies = random_lies(told, LARGE, circuit, lot, many=9, words=(word,))
                self.assertTrue(lies)
                self.is_right(self.is_driven(LARGE, circuit, inputs, coins, lot, lies))

    def test_lines(self):
        told = random.Random(4)
        for hall, many in ((SMALL, 2), (LARGE, 10), (LIE6, 3), (WIDE, 1)):
            for index in range(many):
                circuit = (PLAIN, PRODUCT, BOTH)[index % 3]
                lot = random_lot(told, hall)
                inputs, coins = random_parts(told, hall, circuit)
                words = (None, ("say",), ("tell", "king"), ("rows", "say", "king"))[index % 4]
                lies = random_lies(told, hall, circuit, lot, True, told.choice((2, 6)), words)
                self.is_right(self.is_driven(hall, circuit, inputs, coins, lot, lies, lines=True))

    def test_without_a_rule(self):
        told = random.Random(5)
        for word in RULES:
            for hall, circuit, lines in ((SMALL, MIXED, False), (LOOK5, PRODUCT, True), (LARGE, MIXED, False),
                                         (LARGE, PLAIN, True)):
                lot = random_lot(told, hall)
                inputs, coins = random_parts(told, hall, circuit)
                lies = random_lies(told, hall, circuit, lot, lines, 4)
                self.is_driven(hall, circuit, inputs, coins, lot, lies, without=word, lines=lines)

    def test_bound(self):
        told = random.Random(6)
        for hall in (SMALL, LOOK5, LARGE, LIE6):
            lot = tuple(sorted(told.sample(hall.places, hall.most + 1)))
            inputs, coins = random_parts(told, hall, PRODUCT)
            lies = random_lies(told, hall, PRODUCT, lot, many=5)
            self.is_driven(hall, PRODUCT, inputs, coins, lot, lies, without="bound")
            for word in (None,) + RULES[:-1]:
                self.raises(InvalidLot, None, keyed(Run, 4, "lot", "without"), hall, PRODUCT, inputs, coins, lot, word)

    def test_not_true(self):
        coins = {house: (1,) * coins_of(LARGE, PRODUCT, house) for house in LARGE.places}
        lies = {(3, 2, 0): (), (4, 2, 0): (), **{(1, 2, goal): ((5, 0),) for goal in (1, 3, 4, 5)}}
        run = Run(LARGE, PRODUCT, (3, 4), coins, lot=(2,), lies=lies)
        self.assertEqual([run.inputs, run.committed], [(3, 4), (3, 5)])
        self.assertEqual(set(run.outputs[0, house] for house in (1, 3)), {1})
        one = Run(THREE, SUM, (3, 5), {1: (2,), 2: (4,), 3: ()}, lot=())
        other = Run(THREE, SUM, (3, 5), {1: (3,), 2: (4,), 3: ()}, lot=())
        self.assertEqual(one.view, other.view)
        self.assertNotEqual(one.coins, other.coins)


class CommittedTest(Case):

    def test_another_number(self):
        # House 1 deals 6 rightly by the square 6 + 2 (x + y) + x y in the place of its 3.
        rows = {goal: ((6 + 2 * goal) % 7, (2 + goal) % 7) for goal in (2, 3, 4, 5)}
        coins = {house: (1, 2) * (2 if house < 3 else 1) for house in LARGE.places}
        # What it would say of its own square it does not say.
        lies = {(3, 1, 0): (), (4, 1, 0): (), **{(1, 1, goal): (row,) for goal, row in rows.items()}}
        run = Run(LARGE, PRODUCT, (3, 5), coins, lot=(1,), lies=lies)
        self.assertEqual([run.committed, run.outputs[0, 3]], [(6, 5), 2])
        self.assertEqual(run.shares[0][1:], tuple((6 + 2 * house) % 7 for house in (2, 3, 4, 5)))
        self.assertTrue(all((0, 0) in house.taken for house in run.houses.values()))
        # By its own rules house 1 keeps its own square, whose row for itself it has not told anyone.
        self.assertEqual(run.shares[0][0], (3 + 1) % 7)

    def test_not_taken(self):
        coins = {house: (1, 2) * (2 if house < 3 else 1) for house in LARGE.places}
        lies = {(1, 1, 2): ((0, 1),), (1, 1, 4): ((2, 2),), (4, 1, 0): ()}
        run = Run(LARGE, PRODUCT, (3, 5), coins, lot=(1,), lies=lies)
        self.assertEqual([run.committed, run.shares[0], run.outputs[0, 3]], [(0, 5), (0,) * 5, 0])
        self.assertFalse(any((0, 0) in house.taken for house in run.houses.values()))

    def test_free_houses_and_halls_that_look(self):
        told = random.Random(7)
        for hall in (SMALL, LOOK7):
            inputs, coins = random_parts(told, hall, CHAIN)
            self.assertEqual(Run(hall, CHAIN, inputs, coins, lot=(2,)).committed, inputs)
        inputs, coins = random_parts(told, LARGE, CHAIN)
        self.assertEqual(Run(LARGE, CHAIN, inputs, coins, lot=(2,)).committed, inputs)
        self.assertEqual(Run(LARGE, CHAIN, inputs, coins).committed, inputs)

    def test_lies_on_the_wall_are_seen_as_told(self):
        coins = {house: (1, 2) * (2 if house < 3 else 1) for house in LARGE.places}
        lies = {(3, 4, 0): ((0, 2, 5),), (5, 4, 0): None, (9, 4, 0): (1, (2,))}
        run = Run(LARGE, PRODUCT, (3, 5), coins, lot=(4,), lies=lies)
        for (number, sender, _), text in lies.items():
            self.assertEqual(run.letters[number, sender, 0], text)
            for house in LARGE.places:
                self.assertEqual(run.houses[house].view[number - 1], ({}, {
                    other: text if other == 4 else run.letters[number, other, 0] for other in LARGE.places}))
            self.assertIn(((number, sender, 0), text), run.view[2])


class ObjectTest(Case):

    def test_lies_may_be_none(self):
        one, other = Run(*RUN_PARTS, lot=(3,), lies=None), Run(*RUN_PARTS, lot=(3,), lies={})
        self.assertEqual([one.lies, other.lies], [{}, {}])
        self.is_true(one == other)
        self.assertEqual(all_of(one), all_of(other))
        self.is_true(Run(*RUN_PARTS, lot=(3,)) == one)

    def test_equal(self):
        coins = {house: (1, 2) * (2 if house < 3 else 1) for house in LARGE.places}
        others = {**coins, 3: (1, 3)}
        makers = [
            lambda: Run(*RUN_PARTS), lambda: Run(*RUN_PARTS, lot=(3,)), lambda: Run(*RUN_PARTS, lines=True),
            lambda: Run(*RUN_PARTS, without="coins"), lambda: Run(*RUN_PARTS, without="degree"),
            lambda: Run(THREE, SUM, (3, 4), RUN_PARTS[3]), lambda: Run(THREE, SUM, (3, 5), {1: (2,), 2: (3,), 3: ()}),
            lambda: Run(Hall(11, 3, 1, "look"), *RUN_PARTS[1:]),
            lambda: Run(THREE, Circuit(SUM.gates, ((2, (2,)),)), *RUN_PARTS[2:]),
            lambda: Run(LARGE, PRODUCT, (3, 5), coins, lot=(3,)), lambda: Run(LARGE, PRODUCT, (3, 5), others, lot=(3,)),
            lambda: Run(LARGE, PRODUCT, (3, 5), coins, lot=(3,), lies={(1, 3, 2): ()}),
            lambda: Run(LARGE, PRODUCT, (3, 5), coins, lot=(3,), lies={(1, 3, 2): ((),)}),
            lambda: Run(LARGE, PRODUCT, (3, 5), coins, lot=(3,), lies={(1, 3, 1): ()}),
            lambda: Run(LARGE, PRODUCT, (3, 5), coins, lot=(3,), lines=True),
        ]
        for one, maker in enumerate(makers):
            run = maker()
            for other, maker2 in enumerate(makers):
                self.assertIs(run == maker2(), one == other)
                self.assertIs(run != maker2(), one != other)
        run = makers[0]()
        self.is_true(Run(THREE, SUM, (3, 5), {3: (), 2: (4,), 1: (2,)}) == run)
        for odd in ODD + (SMALL, (run,), run.houses[1], str(run)):
            self.is_false(run == odd)
            self.is_true(run != odd)
            self.is_false(odd == run)
        self.assertNotIn(run, ODD)
        self.assertIn(makers[0](), [None, run])

    def test_texts(self):
        self.assertEqual(str(Run(*RUN_PARTS)), "run of 3 houses, 2 rounds, lot ()")
        self.assertEqual(str(Run(*RUN_PARTS, lot=(2,), lines=True)), "run of 3 houses, 2 rounds, lot (2,)")
        told = random.Random(8)
        inputs, coins = random_parts(told, WIDE, PRODUCT)
        self.assertEqual(str(Run(WIDE, PRODUCT, inputs, coins, lot=(2, 9))), "run of 9 houses, 12 rounds, lot (2, 9)")
        inputs, coins = random_parts(told, LARGE, PRODUCT)
        self.assertEqual(str(Run(LARGE, PRODUCT, inputs, coins, lines=True)), "run of 5 houses, 36 rounds, lot ()")

    def test_never_changes(self):
        coins = {house: (1, 2) * (2 if house < 3 else 1) for house in LARGE.places}
        lies = {(5, 3, 0): (0, 0), (1, 3, 2): (1,)}
        run = Run(LARGE, PRODUCT, (3, 5), coins, lot=(3,), lies=lies)
        before = all_of(run)
        coins[1], lies[2, 3, 1] = (0,) * 4, ()
        for name in ("coins", "lies", "houses", "letters", "shares", "outputs"):
            table = getattr(run, name)
            self.assertIs(type(table), dict)
            self.assertEqual(list(table), sorted(table))
            table.clear()
        self.assertEqual(all_of(run), before)
        for name in ("hall", "circuit", "inputs", "coins", "lot", "lies", "lines", "without", "rounds", "houses",
                     "letters", "shares", "committed", "outputs", "view"):
            with self.assertRaises(AttributeError):
                setattr(run, name, getattr(run, name))

    def test_not_iterated(self):
        run = Run(*RUN_PARTS)
        with self.assertRaises(TypeError):
            iter(run)
        with self.assertRaises(TypeError):
            list(run)


def wrong_coins(right):
    """What are no coins of the houses of these ones, which have one coin at least for house 1."""
    least = {house: coins for house, coins in right.items() if house > 1}
    rows = tuple({**right, 1: row} for row in wrong_rows(7, len(right[1])) + (
        right[1][1:], right[1] + (0,), (right[1],)))
    return (InvalidCoins, rows + (
        None, (), 1, "", [], {}, PRODUCT, LONG, tuple(right.items()), least, {**right, 0: ()}, {**right, 9: ()},
        {**least, True: right[1]}, {**least, "1": right[1]}, {**least, None: right[1]}, {**least, (1,): right[1]},
        {**least, LONG: right[1]}, {1: right[1]}))


LOTS = (InvalidLot, (None, 2, [2], (1, 2), (0,), (6,), (True,), ("2",), {2: 2}, (2, 2), LARGE, LONG, (None,), "2"))
RULE = (UnknownName, ("rows", "Coins", "", True, False, 0, (), ("coins",), ["coins"], {}, SMALL, LONG))


class RefusalsTest(Case):

    def wrong_lies(self):
        """What are no lies of house 2 in the twelve rounds of a product."""
        keys = ((0, 2, 1), (13, 2, 1), (1, 2, 2), (1, 2, 0), (1, 2, 6), (3, 2, 1), (1, 1, 2), (1, 0, 2), (True, 2, 1),
                (1, True, 2), (1, 2, True), (3, 2, False), (1, 2), (1, 2, 1, 1), None, 1, "121", (), (None, 2, 1),
                ("1", 2, 1), (LONG, 2, 1), (-1, 2, 1), (1, (2,), 1))
        values = (True, False, "a", [], {}, LONG, (True,), (0,) * 1001, nested(tuple, 7), PRODUCT)
        return (InvalidLies, tuple({key: 0} for key in keys) + tuple({(1, 2, 1): value} for value in values) + (
            (), [], 1, "", True, False, LONG, PRODUCT, [((1, 2, 1), 0)], {(1, 2, 1): 0, (1, 2, 2): 0}))

    def test_all_parts(self):
        call = keyed(Run, 4, "without", "lot", "lines", "lies")
        head = ((InvalidHall, WRONG_HALLS), (InvalidCircuit, WRONG_CIRCUITS),
                (InvalidInputs, wrong_rows(7, 2) + ((), (1,), (1, 2, 3))))
        coins = {house: (1, 2) * (2 if house < 3 else 1) for house in LARGE.places}
        for without in (None,) + RULES:
            self.assertEqual(call(LARGE, PRODUCT, (3, 5), coins, without, (2,), True, None).without, without)
        self.refuses(call, (LARGE, PRODUCT, (3, 5), coins, "coins", (2,), False, {(1, 2, 1): None, (3, 2, 0): 1}),
                     head + (wrong_coins(coins), RULE, LOTS, (InvalidOperation, LINES[1]), self.wrong_lies()))
        looks = {1: (2, 1), 2: (4, 3), 3: (5,)}
        self.refuses(call, (SMALL, PRODUCT, (3, 5), looks, None, (2,), True, {}),
                     head + (wrong_coins(looks), RULE, LOTS, (InvalidOperation, LINES[1]),
                             (InvalidLies, ({(1, 2, 1): (0,)}, {(1, 2, 1): None}, (), [], 0, False))))
        self.refuses(Run, (LARGE, PRODUCT, (3, 5), coins), head + (wrong_coins(coins),))

    def test_sizes_of_lots(self):
        told = random.Random(9)
        for hall in HALLS:
            inputs, coins = random_parts(told, hall, PLAIN)
            for many in range(hall.houses + 1):
                lot = hall.places[:many]
                for without, most in ((None, hall.most), ("bound", hall.most + 1), ("king", hall.most)):
                    if many <= most:
                        self.assertEqual(Run(hall, PLAIN, inputs, coins, lot=lot, without=without).lot, lot)
                    else:
                        self.raises(InvalidLot, None, keyed(Run, 4, "lot", "without"), hall, PLAIN, inputs, coins, lot,
                                    without)

    def test_lies_without_a_lot(self):
        coins = {house: (1, 2) * (2 if house < 3 else 1) for house in LARGE.places}
        call = keyed(Run, 4, "lies")
        self.raises(InvalidLies, None, call, LARGE, PRODUCT, (3, 5), coins, {(1, 2, 1): 0})
        self.assertEqual(call(LARGE, PRODUCT, (3, 5), coins, {}).lies, {})

    def test_many_lies(self):
        told = random.Random(10)
        lot = (2, 7)
        inputs, coins = random_parts(told, WIDE, PRODUCT)
        keys = [key for key in sorted(Run(WIDE, PRODUCT, inputs, coins, lines=True).letters) if key[1] in lot]
        self.assertGreater(len(keys), 300)
        call = keyed(Run, 4, "lot", "lines", "lies")
        run = call(WIDE, PRODUCT, inputs, coins, lot, True, dict.fromkeys(keys[:300], ()))
        self.assertEqual(len(run.lies), 300)
        self.raises(InvalidLies, None, call, WIDE, PRODUCT, inputs, coins, lot, True, dict.fromkeys(keys[:301], ()))
