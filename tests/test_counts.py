"""Stage 18: counted coins."""

import random
from itertools import product

from evencoins.errors import (
    InvalidCircuit, InvalidCoins, InvalidHall, InvalidInputs, InvalidLies, InvalidLot, InvalidOperation, TooMany,
    UnknownName,
)
from evencoins.judge.counts import (
    alike_rows, coin_rows, count_power, even_or_parted, is_even_paper, row_count, view_counts,
)
from evencoins.judge.views import are_alike, exchanged
from evencoins.plan.circuits import Circuit
from evencoins.talk.halls import Hall, coins_of
from evencoins.talk.runs import Run
from tests.helper import (
    LARGE, LONG, ODD, PRODUCT, SMALL, WRONG_CIRCUITS, WRONG_HALLS, Case, all_rows, keyed, replaced, wrong_rows,
)
from tests.talks import BOTH, RULES, SUM, random_lies
from tests.test_halls import BARE, DEEP, PLAIN
from tests.test_runs import LOTS, RULE

FIVE3 = Hall(5, 3, 1, "look")
SECRET = Circuit(PRODUCT.gates, ((2, (1,)),))
ONE = Circuit((("input", 1),), ((0, (1, 3)),))
TWO = Circuit((("input", 2), ("times", 0, 3)), ((1, (4,)),))
SQUARE = Circuit((("input", 3), ("product", 0, 0)), ((1, (2, 3)),))


def coin_tables(hall, circuit, houses):
    """All dicts of coins of these houses, ascending."""
    many = [coins_of(hall, circuit, house) for house in houses]
    for row in product(range(hall.field), repeat=sum(many)):
        left = list(row)
        yield {house: tuple(left.pop(0) for _ in range(count)) for house, count in zip(houses, many)}


def free_of(hall, lot):
    return [house for house in hall.places if house not in lot]


def counts_by(hall, circuit, inputs, lot, coins, lies, without=None):
    """The counts of all views, each made by a run."""
    found = {}
    for table in coin_tables(hall, circuit, free_of(hall, lot)):
        view = Run(hall, circuit, inputs, {**table, **coins}, lot=lot, lies=lies, without=without).view
        found[view] = found.get(view, 0) + 1
    return {view: found[view] for view in sorted(found)}


def told_by(hall, circuit, inputs, lot):
    """What the lot should be told."""
    told = circuit.told(hall.field, inputs)
    return [number for number, (_, houses) in zip(told, circuit.outputs) if set(houses) & set(lot)]


class ExamplesTest(Case):

    def test_examples(self):
        self.assertEqual([row_count(FIVE3, SUM, (3,)), len(view_counts(FIVE3, SUM, (1, 2), (3,), {3: ()}, {})),
                          count_power(FIVE3, SUM, (1, 2), (3,), {3: ()})], [25, 25, 0])
        self.assertEqual([alike_rows(FIVE3, SUM, (1, 2), (3,)),
                          even_or_parted(FIVE3, SUM, (1, 2), (0, 3), (3,), {3: ()}, {})],
                         [((0, 3), (1, 2), (2, 1), (3, 0), (4, 4)), ("even", 25)])


class RowsTest(Case):

    def test_rows(self):
        for hall, circuit, lot, many in (
                (FIVE3, SUM, (3,), 25), (FIVE3, SUM, (), 25), (FIVE3, SUM, (1,), 5), (FIVE3, BARE, (2,), 25),
                (FIVE3, SECRET, (3,), 625), (Hall(7, 3, 1, "look"), PRODUCT, (1,), 343), (LARGE, ONE, (2,), 49),
                (LARGE, ONE, (1,), 1), (LARGE, TWO, (1,), 49), (Hall(691, 3, 1, "look"), ONE, (2,), 691),
                (Hall(7, 5, 2, "look"), ONE, (2, 3), 49), (SMALL, PLAIN, (2,), 1), (Hall(23, 5, 1, "lie"), ONE, (), 529)):
            self.same(many, row_count, hall, circuit, lot)
            rows = list(coin_rows(hall, circuit, lot))
            self.assertEqual(rows, list(coin_tables(hall, circuit, free_of(hall, lot))))
            self.assertEqual([list(row) for row in rows[:1]], [free_of(hall, lot)])
            self.assertEqual(len(rows), many)

    def test_many_rows(self):
        for hall, circuit, lot, many in (
                (Hall(701, 3, 1, "look"), ONE, (2,), 701), (FIVE3, SECRET, (), 3125), (LARGE, PLAIN, (), 7 ** 4),
                (Hall(997, 9, 4, "look"), DEEP, (), 997 ** ((4 * 9 + 3) * 4)), (Hall(29, 5, 1, "lie"), ONE, (), 841)):
            self.same(many, row_count, hall, circuit, lot)
            rows = coin_rows(hall, circuit, lot)
            with self.assertRaises(TooMany) as caught:
                next(rows)
            self.assertEqual(caught.exception.limit, 700)


class CountsTest(Case):

    CASES = (
        (FIVE3, SUM, (3,), {}), (FIVE3, SUM, (1,), {}), (FIVE3, SUM, (), {}), (FIVE3, SECRET, (3,), {}),
        (FIVE3, PRODUCT, (3,), {}), (FIVE3, SQUARE, (1,), {}), (FIVE3, SQUARE, (3,), {}), (Hall(7, 3, 1, "look"), PRODUCT, (1,), {}),
        (Hall(7, 5, 2, "look"), ONE, (2, 3), {}), (LARGE, ONE, (3,), {}), (LARGE, ONE, (2,), {}), (LARGE, TWO, (4,), {}),
        (LARGE, TWO, (2,), {}),
    )

    def own_coins(self, told, hall, circuit, lot):
        return {house: tuple(told.randrange(hall.field) for _ in range(coins_of(hall, circuit, house))) for house in lot}

    def test_counts(self):
        told = random.Random(1)
        for hall, circuit, lot, lies in self.CASES:
            inputs = tuple(told.randrange(hall.field) for _ in circuit.inputs)
            coins = self.own_coins(told, hall, circuit, lot)
            for table in (lies, random_lies(told, hall, circuit, lot, many=4)):
                right = counts_by(hall, circuit, inputs, lot, coins, table)
                self.same(right, view_counts, hall, circuit, inputs, lot, coins, table)
                self.assertEqual(sum(right.values()), row_count(hall, circuit, lot))

    def test_without_a_rule(self):
        told = random.Random(2)
        for word in RULES:
            for hall, circuit, lot in ((FIVE3, SQUARE, (1,)), (LARGE, ONE, (3,)), (LARGE, ONE, (2, 3))):
                if len(lot) <= hall.most or word == "bound":
                    inputs = tuple(told.randrange(hall.field) for _ in circuit.inputs)
                    coins = self.own_coins(told, hall, circuit, lot)
                    lies = random_lies(told, hall, circuit, lot, many=3)
                    call = keyed(view_counts, 6, "without")
                    self.same(counts_by(hall, circuit, inputs, lot, coins, lies, word), call, hall, circuit, inputs, lot,
                              coins, lies, word)

    def test_691_rows(self):
        hall = Hall(691, 3, 1, "look")
        counts = view_counts(hall, ONE, (690,), (2,), {2: ()}, {})
        self.assertEqual([len(counts), set(counts.values())], [691, {1}])
        for row in ((0,), (5,), (690,)):
            run = Run(hall, ONE, (690,), {1: row, 2: (), 3: ()}, lot=(2,))
            self.assertEqual(counts[run.view], 1)
        self.assertEqual(even_or_parted(hall, ONE, (3,), (4,), (2,), {2: ()}, {}), ("even", 691))

    def is_parted(self, hall, circuit, one, other, lot, coins, lies, without=None):
        """The paper is right, and others are only if they are; whether the counts are unlike."""
        call, judge = keyed(even_or_parted, 7, "without"), keyed(is_even_paper, 8, "without")
        arguments = (hall, circuit, one, other, lot, coins, lies)
        counts = counts_by(*arguments[:2], one, *arguments[4:], without)
        others = counts_by(*arguments[:2], other, *arguments[4:], without)
        paper = call(*arguments, without)
        unlike = [view for view in {**counts, **others} if counts.get(view, 0) != others.get(view, 0)]
        if unlike:
            self.assertEqual(paper[0], "parted")
            self.assertEqual(paper[2:], (counts.get(paper[1], 0), others.get(paper[1], 0)))
            self.assertIn(paper[1], unlike)
        else:
            self.assertEqual(paper, ("even", len(counts)))
        self.is_true(judge(*arguments, paper, without))
        for view in (unlike + list(counts))[:2]:
            right = ("parted", view, counts.get(view, 0), others.get(view, 0))
            self.assertIs(judge(*arguments, right, without), view in unlike)
            self.is_false(judge(*arguments, right[:3] + (right[3] + 1,), without))
            self.is_false(judge(*arguments, (right[0], right[1], right[3], right[2]), without) and right[2] != right[3])
        self.is_false(judge(*arguments, ("even", len(counts) + 1), without))
        self.assertIs(judge(*arguments, ("even", len(counts)), without), not unlike)
        return bool(unlike)

    def test_alike_inputs_are_even(self):
        told = random.Random(3)
        for hall, circuit, lot, _ in self.CASES[:3] + self.CASES[5:7] + self.CASES[9:]:
            coins = self.own_coins(told, hall, circuit, lot)
            lies = random_lies(told, hall, circuit, lot, many=4)
            one = tuple(told.randrange(hall.field) for _ in circuit.inputs)
            run = Run(hall, circuit, one, {**next(coin_tables(hall, circuit, free_of(hall, lot))), **coins}, lot=lot,
                      lies=lies)
            for other in told.sample(all_rows(hall.field, len(one)), 3):
                alike = are_alike(run, other)
                parted = self.is_parted(hall, circuit, one, other, lot, coins, lies)
                if alike:
                    self.assertFalse(parted)
                elif hall.kind == "look":
                    self.assertTrue(parted)
        self.assertFalse(self.is_parted(FIVE3, SECRET, (1, 2), (0, 4), (3,), {3: (2,)}, {}))

    def test_rules_left_out_part(self):
        self.assertTrue(self.is_parted(FIVE3, SECRET, (1, 1), (0, 0), (3,), {3: (2,)}, {}, "coins"))
        self.assertTrue(self.is_parted(FIVE3, Circuit(ONE.gates, ((0, (1,)),)), (1,), (0,), (2, 3), {2: (), 3: ()}, {}, "bound"))
        self.assertFalse(self.is_parted(FIVE3, SUM, (1, 1), (0, 2), (3,), {3: ()}, {}, "coins"))

    def test_unlike_outputs_have_no_view_in_common(self):
        for circuit, lot, one, other in ((SUM, (3,), (1, 2), (1, 3)), (SQUARE, (2,), (1,), (2,)), (ONE, (3,), (0,), (4,))):
            coins = {house: (1,) * coins_of(FIVE3, circuit, house) for house in lot}
            views = [set(view_counts(FIVE3, circuit, row, lot, coins, {})) for row in (one, other)]
            self.assertFalse(views[0] & views[1])

    def test_not_true(self):
        # Equal views come of unlike inputs.
        views = [set(view_counts(FIVE3, SUM, row, (3,), {3: ()}, {})) for row in ((1, 2), (0, 3))]
        self.assertEqual(views[0], views[1])
        # In a hall in which houses lie: house 1, given 1, commits itself to 0, so that it is told 0 whatever house 2 has.
        coins = {house: (1, 2) * (2 if house < 3 else 1) for house in LARGE.places}
        lies = {(3, 1, 0): (), (4, 1, 0): (), **{(1, 1, goal): None for goal in (2, 3, 4, 5)}}
        run = Run(LARGE, SECRET, (1, 5), coins, lot=(1,), lies=lies)
        other = Run(LARGE, SECRET, (1, 3), exchanged(run, (1, 3)), lot=(1,), lies=lies)
        self.assertEqual([told_by(LARGE, SECRET, row, (1,)) for row in ((1, 5), (1, 3))], [[5], [3]])
        self.assertEqual(run.view, other.view)

    def test_papers(self):
        arguments = (FIVE3, SUM, (1, 2), (0, 3), (3,), {3: ()}, {})
        self.accepts(is_even_paper, arguments, ("even", 25))
        self.judges(is_even_paper, arguments, ODD[::3])
        parted = (FIVE3, ONE, (1,), (0,), (3,), {3: ()}, {})
        paper = even_or_parted(*parted)
        self.assertEqual([paper[0], paper[2:]], ["parted", (1, 0)])
        self.accepts(is_even_paper, parted, paper)
        self.judges(is_even_paper, parted, ODD)
        self.judges(is_even_paper, parted, [("parted", odd, 1, 0) for odd in ODD])
        self.judges(is_even_paper, parted, [("parted", odd, 0, 0) for odd in ODD])
        self.judges(is_even_paper, parted, [("parted", odd, 0, 0) for odd in list(view_counts(*parted[:3], *parted[4:]))])

    def test_equal_inputs(self):
        self.assertEqual(even_or_parted(FIVE3, SUM, (1, 2), (1, 2), (3,), {3: ()}, {}), ("even", 25))
        self.assertEqual(even_or_parted(FIVE3, SUM, (1, 2), (2, 2), (1,), {1: (3,)}, {})[0], "parted")


class AlikeTest(Case):

    def test_alike_rows(self):
        told = random.Random(4)
        for hall, circuit in ((FIVE3, SUM), (FIVE3, PRODUCT), (SMALL, PLAIN), (LARGE, SQUARE), (LARGE, BARE), (FIVE3, BOTH)):
            for lot in ((), (1,), (2,), (3,)):
                for _ in range(4):
                    inputs = tuple(told.randrange(hall.field) for _ in circuit.inputs)
                    right = tuple(
                        row for row in all_rows(hall.field, len(inputs))
                        if all(x == y or house not in lot for x, y, house in zip(row, inputs, circuit.houses))
                        and told_by(hall, circuit, row, lot) == told_by(hall, circuit, inputs, lot))
                    self.same(right, alike_rows, hall, circuit, inputs, lot)

    def test_bounds(self):
        circuit = Circuit((("input", 1),) * 5 + (("input", 2),), ((0, (2,)),))
        self.raises(TooMany, 700, alike_rows, FIVE3, circuit, (0,) * 6, ())
        self.raises(TooMany, 700, alike_rows, FIVE3, circuit, (0,) * 6, (3,))
        self.raises(TooMany, 700, alike_rows, FIVE3, circuit, (0,) * 6, (2,))
        self.assertEqual(alike_rows(FIVE3, circuit, (1, 2, 3, 4, 0, 1), (1,)), tuple((1, 2, 3, 4, 0, x) for x in range(5)))
        self.assertEqual(len(alike_rows(Hall(691, 3, 1, "look"), ONE, (5,), ())), 691)
        self.raises(TooMany, 700, alike_rows, Hall(701, 3, 1, "look"), ONE, (5,), (3,))


class PowerTest(Case):

    def test_power(self):
        told = random.Random(5)
        for hall, circuit, lot in (
                (FIVE3, SUM, (3,)), (FIVE3, SUM, (1,)), (FIVE3, SUM, ()), (FIVE3, SECRET, (3,)), (FIVE3, PRODUCT, (3,)),
                (FIVE3, SQUARE, (1,)), (Hall(7, 5, 2, "look"), ONE, (3,)), (Hall(7, 5, 2, "look"), ONE, (1,)),
                (Hall(5, 4, 1, "look"), BARE, (4,)), (Hall(691, 3, 1, "look"), ONE, ())):
            found = set()
            for _ in range(2):
                coins = {house: tuple(told.randrange(hall.field) for _ in range(coins_of(hall, circuit, house)))
                         for house in lot}
                inputs = tuple(told.randrange(hall.field) for _ in circuit.inputs)
                counts = set(view_counts(hall, circuit, inputs, lot, coins, {}).values())
                self.assertEqual(len(counts), 1)
                k = count_power(hall, circuit, inputs, lot, coins)
                self.assertEqual(counts, {hall.field ** k})
                found.add(k)
            self.assertEqual(len(found), 1)


class RefusalsTest(Case):

    HALL = (InvalidHall, WRONG_HALLS)
    CIRCUIT = (InvalidCircuit, WRONG_CIRCUITS)
    COINS = (InvalidCoins, (
        None, (), 1, "", [], PRODUCT, {}, {2: ()}, {2: (1, 2, 3)}, {2: [1, 2]}, {2: (1, 7)}, {2: (1, True)}, {2: None},
        {2: (1, 2), 3: (1, 2)}, {3: (1, 2)}, {3: ()}, {2: (1, 2), 3: ()}, {"2": (1, 2)}, {(2,): (1, 2)}, {2: (1, LONG)}, ((2, (1, 2)),)))
    LIES = (InvalidLies, ((), [], 1, "", None, True, {(1, 2, 1): True}, {(1, 1, 2): 0}, {(13, 2, 1): 0}, {(3, 2, 1): 0}))
    INPUTS = (InvalidInputs, wrong_rows(7, 1) + ((), (1, 2)))

    def test_rows(self):
        for function in (row_count, lambda *parts: next(coin_rows(*parts))):
            self.refuses(function, (LARGE, ONE, (2,)), (self.HALL, self.CIRCUIT, LOTS))
        # A generator tells its errors when its first row is asked for.
        rows = coin_rows(None, None, None)
        with self.assertRaises(InvalidHall):
            next(rows)
        self.refuses(alike_rows, (LARGE, ONE, (3,), (2,)), (self.HALL, self.CIRCUIT, self.INPUTS, LOTS),
                     ((TooMany, 700, (LARGE, Circuit((("input", 1),) * 4, ((0, (1,)),)), (0,) * 4, ())),))

    def test_counts(self):
        circuit = Circuit((("input", 2), ("input", 1), ("sum", 0, 1)), ((2, (1,)),))
        lies = {(1, 2, 1): ()}
        head = (self.HALL, self.CIRCUIT, (InvalidInputs, wrong_rows(7, 2) + ((), (1,), (1, 2, 3))))
        coins = (InvalidCoins, tuple(odd for odd in self.COINS[1]))
        many = (LARGE, Circuit(circuit.gates + (("input", 3),), circuit.outputs), (1, 2, 3), (2,), {2: (1, 2)}, lies, None)
        call = keyed(view_counts, 6, "without")
        self.refuses(call, (LARGE, circuit, (3, 4), (2,), {2: (1, 2)}, lies, None), head + (
            LOTS, coins, self.LIES, RULE), ())
        self.raises(TooMany, 700, call, *many)
        for index, (error, values) in enumerate(head[:2] + ((InvalidInputs, wrong_rows(7, 3) + ((1, 2),)), LOTS, coins,
                                                            self.LIES, RULE)):
            for value in values:
                self.raises(error, value, call, *replaced(many, {index: value}))
        call = keyed(even_or_parted, 7, "without")
        self.refuses(call, (LARGE, circuit, (3, 4), (3, 5), (2,), {2: (1, 2)}, lies, None), head + (
            head[2], LOTS, coins, self.LIES, RULE))
        self.raises(TooMany, 700, call, *many[:3], (0, 0, 0), *many[3:])

    def test_papers_and_powers(self):
        small = Circuit((("input", 1),), ((0, (1,)),))
        judge = keyed(is_even_paper, 8, "without")
        self.refuses(judge, (LARGE, small, (3,), (3,), (2,), {2: ()}, {}, None, None), (
            self.HALL, self.CIRCUIT, self.INPUTS, self.INPUTS, LOTS, (InvalidCoins, ({}, {2: (1,)}, None)), self.LIES,
            (None, ()), RULE))
        self.raises(TooMany, 700, judge, Hall(701, 3, 1, "look"), ONE, (3,), (3,), (2,), {2: ()}, {}, None, None)
        self.refuses(count_power, (SMALL, small, (3,), (2,), {2: ()}), (
            self.HALL, self.CIRCUIT, self.INPUTS, (InvalidLot, LOTS[1]), (InvalidCoins, ({}, {2: (1,)}, None, ()))),
            ((InvalidOperation, None, (LARGE, small, (3,), (2,), {2: ()})),))
        self.raises(TooMany, 700, count_power, LARGE, PLAIN, (3, 4), (1,), {1: ()})
        self.raises(TooMany, 700, count_power, Hall(701, 3, 1, "look"), small, (3,), (2,), {2: ()})
        for word in ("bound",):
            call = keyed(view_counts, 6, "without")
            self.assertEqual(len(call(SMALL, small, (3,), (2, 3), {2: (), 3: ()}, {}, word)), 7)
            self.raises(InvalidLot, None, call, SMALL, small, (3,), (2, 3), {2: (), 3: ()}, {}, None)
            self.raises(InvalidLot, None, call, SMALL, small, (3,), (1, 2, 3), {}, {}, word)
        self.assertEqual(exchanged(Run(SMALL, small, (3,), {1: (1,), 2: (), 3: ()}), (3,)), {1: (1,), 2: (), 3: ()})
