"""Stage 17: what holds in every run."""

import random
from itertools import combinations

from evencoins.errors import InvalidInputs, InvalidNumber, InvalidRun, Refused
from evencoins.judge.sound import common_poly, errors_in, fault, is_common_paper, is_sound, product_word, truths
from evencoins.plan.circuits import Circuit
from evencoins.talk.halls import Hall, batches
from evencoins.talk.runs import Run
from tests.helper import (
    LARGE, LONG, LONGEST, PRODUCT, SMALL, WRONG_FIELDS, Case, all_polys, value, wrong_numbers,
)
from tests.talks import (
    BOTH, CHAIN, LIE6, LOOK5, LOOK7, RULES, WIDE, free_points, is_on_poly, random_lies, random_lot, random_parts,
    value_through,
)
from tests.test_halls import DEEP, PLAIN
from tests.test_houses import MIXED
from tests.test_views import WRONG_RUNS


def fault_by(run):
    """The first broken sentence of a run."""
    for sentence in (dealt_by, poly_by, errors_by, meaning_by, told_by):
        found = sentence(run)
        if found is not None:
            return found
    return None


def number_at(run, word):
    """The number at 0 of the poly of the free shares."""
    return value_through(run.hall.field, free_points(run.hall, run.lot, word)[:run.hall.most + 1], 0)


def dealt_word(run, pair):
    """The shares of a dealing of all houses."""
    return [run.houses[house].dealt[pair] for house in run.hall.places]


def dealings(run):
    """All dealings of a run: their pairs of a batch and an index, their gates and their dealers."""
    return [((batch, index), gate, dealer) for batch, pairs in enumerate(batches(run.hall, run.circuit))
            for index, (gate, dealer) in enumerate(pairs)]


def dealt_by(run):
    free = [house for house in run.hall.places if house not in run.lot]
    for pair, gate, dealer in dealings(run):
        word = dealt_word(run, pair)
        taken = set(pair in run.houses[house].taken for house in free)
        if not is_on_poly(run.hall.field, free_points(run.hall, run.lot, word), run.hall.most) or len(taken) > 1:
            return ("dealt",) + pair
        number = number_at(run, word)
        if dealer in free:
            if pair[0] == 0:
                right = run.inputs[pair[1]]
            else:
                one, other = run.circuit.gates[gate][1:]
                right = run.shares[one][dealer - 1] * run.shares[other][dealer - 1] % run.hall.field
            if taken == {False} or number != right:
                return ("dealt",) + pair
        elif taken == {False} and number != 0:
            return ("dealt",) + pair


def poly_by(run):
    for gate in range(len(run.circuit.gates)):
        if not is_on_poly(run.hall.field, free_points(run.hall, run.lot, run.shares[gate]), run.hall.most):
            return ("poly", gate)


def word_by(run, gate):
    """The word of a product."""
    return tuple(number_at(run, dealt_word(run, pair)) for pair, other, _ in dealings(run) if pair[0] and other == gate)


def products(run):
    return [gate for gate, parts in enumerate(run.circuit.gates) if parts[0] == "product"]


def errors_by(run):
    for gate in products(run):
        points = free_points(run.hall, run.lot if run.hall.kind == "lie" else (), word_by(run, gate))
        if not is_on_poly(run.hall.field, points, 2 * run.hall.most):
            return ("errors", gate)


def meaning_by(run):
    for gate, number in enumerate(run.circuit.meaning(run.hall.field, run.committed)):
        if number_at(run, run.shares[gate]) != number:
            return ("meaning", gate)


def told_by(run):
    for (index, house), number in sorted(run.outputs.items()):
        if house not in run.lot and number != number_at(run, run.shares[run.circuit.outputs[index][0]]):
            return ("told", index, house)


def errors_of(run, gate):
    """By how much the word of a product is off, and where."""
    word, hall = word_by(run, gate), run.hall
    points = free_points(hall, run.lot if hall.kind == "lie" else (), word)[:2 * hall.most + 1]
    off = {place: (word[place - 1] - value_through(hall.field, points, place)) % hall.field for place in hall.places}
    return {place: number for place, number in off.items() if number}


class ExamplesTest(Case):

    def test_examples(self):
        self.assertEqual([common_poly(7, {1: 3, 2: 5, 4: 2}, 1),
                          is_common_paper(7, {1: 3, 2: 5, 4: 3}, 1, ("places", (1, 2, 4))), common_poly(7, {3: 4}, 2)],
                         [("poly", (1, 2)), True, ("poly", (4,))])


class CommonTest(Case):

    def test_all_polys_of_a_small_field(self):
        told = random.Random(1)
        polys = {degree: all_polys(5, degree) for degree in (0, 1, 2)}
        for _ in range(150):
            places = sorted(told.sample(range(1, 5), told.randrange(5)))
            shares = {place: told.randrange(5) for place in told.sample(places, len(places))}
            for degree in (0, 1, 2):
                fits = [poly for poly in polys[degree] if all(value(5, poly, x) == y for x, y in shares.items())]
                paper = common_poly(5, shares, degree)
                self.assertEqual(paper[0], "poly" if fits else "places")
                self.same(True, is_common_paper, 5, shares, degree, paper)
                for poly in polys[2]:
                    self.same(poly in fits, is_common_paper, 5, shares, degree, ("poly", poly))
                for chosen in combinations(range(1, 5), degree + 2):
                    none = set(chosen) <= set(shares) and not any(
                        all(value(5, poly, x) == shares[x] for x in chosen) for poly in polys[degree])
                    self.same(none, is_common_paper, 5, shares, degree, ("places", chosen))

    def test_many_places(self):
        told = random.Random(2)
        for field, degree in ((31, 5), (101, 20), (997, 20), (7, 0), (7, 20)):
            poly = tuple(told.randrange(1, field) for _ in range(min(degree, 6) + 1))
            shares = {place: value(field, poly, place) for place in range(1, min(field, 40))}
            paper = common_poly(field, shares, degree)
            if len(poly) <= len(shares):
                self.assertEqual(paper, ("poly", poly))
            self.accepts(is_common_paper, (field, shares, degree), paper)
            if len(shares) > degree + 1:
                shares[len(shares)] = (shares[len(shares)] + 1) % field
                paper = common_poly(field, shares, degree)
                self.assertEqual((paper[0], len(paper[1])), ("places", degree + 2))
                self.accepts(is_common_paper, (field, shares, degree), paper)
        self.assertEqual(common_poly(7, {}, 0), ("poly", ()))
        self.assertEqual(common_poly(7, {4: 0, 2: 0}, 3), ("poly", ()))

    def test_values(self):
        for shares in ({}, {1: 0}, {1: 3, 2: 5, 4: 2}, {1: 3, 2: 5, 4: 3}):
            self.judges(is_common_paper, (7, shares, 1))
            for word, right in (("poly", {}), ("places", {})):
                self.judges(is_common_paper, (7, shares, 1), [
                    (word, odd) for odd in ((1, True), (0, 0), [1], None, 1, (7,), (1, 2, 4, 4), (1, 2, True), (2, 1, 4))])
        self.is_false(is_common_paper(7, {1: 1, 2: 1, 3: 1}, 1, ("poly", (True,))))
        # Just d + 2 places, not more of them.
        self.is_true(is_common_paper(7, {1: 0, 2: 0, 3: 1, 4: 3}, 1, ("places", (1, 2, 3))))
        self.is_false(is_common_paper(7, {1: 0, 2: 0, 3: 1, 4: 3}, 1, ("places", (1, 2, 3, 4))))
        self.judges(is_common_paper, (7, {1: 0, 2: 0, 3: 1, 4: 3}, 1), [(), ("poly",), ("places",), ("places", (1, 2))])
        self.is_true(is_common_paper(7, {1: 1, 2: 1}, 2, ("poly", (1,))))
        # Any poly of the degree will do if the places are few.
        self.is_true(is_common_paper(7, {1: 1}, 1, ("poly", (0, 1))))
        self.is_false(is_common_paper(7, {1: 1}, 0, ("poly", (0, 1))))

    def test_refused(self):
        shares = (InvalidInputs, (
            None, (), [], 1, "", PRODUCT, {0: 1}, {7: 1}, {-1: 1}, {True: 1}, {None: 1}, {"1": 1}, {(1,): 1}, {1: 7},
            {1: -1}, {1: True}, {1: None}, {1: "1"}, {1: (1,)}, {1: LONG}, {LONG: 1}, {1: 1, 2: LONGEST}, {1: 1, 8: 1}))
        most = (InvalidNumber, wrong_numbers(0, 20))
        self.refuses(common_poly, (7, {1: 1}, 20), ((InvalidNumber, WRONG_FIELDS), shares, most))
        self.refuses(is_common_paper, (7, {1: 1}, 0, None), ((InvalidNumber, WRONG_FIELDS), shares, most, (None, ())))


class SoundTest(Case):

    def runs(self, told, without=None):
        """Runs in halls of all kinds."""
        for hall, circuit, lines, many in (
                (SMALL, MIXED, False, 3), (LOOK5, CHAIN, True, 3), (LOOK7, BOTH, False, 2), (LARGE, BOTH, False, 10),
                (LARGE, MIXED, False, 4), (LIE6, CHAIN, False, 3), (LARGE, PLAIN, True, 4), (LARGE, DEEP, False, 2),
                (LARGE, PRODUCT, True, 2), (WIDE, PRODUCT, False, 1)):
            for index in range(many):
                lot = random_lot(told, hall)
                if without == "bound":
                    lot = tuple(sorted(told.sample(hall.places, hall.most + 1)))
                inputs, coins = random_parts(told, hall, circuit)
                lies = random_lies(told, hall, circuit, lot, lines, (1, 3, 6, 10)[index % 4])
                yield Run(hall, circuit, inputs, coins, lot=lot, lies=lies, lines=lines, without=without)

    def test_all_rules(self):
        for run in self.runs(random.Random(3)):
            self.assertIsNone(fault_by(run))
            self.same(None, fault, run)
            self.same(True, is_sound, run)
            self.is_told(run)

    def is_told(self, run):
        """Truths, words and errors of a run that is sound so far."""
        first = fault_by(run)
        broken = first[0] if first else None
        if broken in ("dealt", "poly"):
            self.raises(Refused, first, truths, run)
        else:
            self.same(tuple(number_at(run, run.shares[gate]) for gate in range(len(run.circuit.gates))), truths, run)
        for gate in products(run):
            if broken in ("dealt", "poly"):
                self.raises(Refused, first, product_word, run, gate)
            else:
                self.same(word_by(run, gate), product_word, run, gate)
            if broken in ("dealt", "poly", "errors"):
                self.raises(Refused, first, errors_in, run, gate)
            else:
                self.same(errors_of(run, gate), errors_in, run, gate)
                self.assertTrue(set(errors_in(run, gate)) <= set(run.lot))

    def test_without_a_rule(self):
        told = random.Random(4)
        found = set()
        for word in RULES:
            for run in self.runs(told, word):
                first = fault_by(run)
                self.same(first, fault, run)
                self.same(first is None, is_sound, run)
                self.is_told(run)
                found.add(first and first[0])
        self.assertTrue(found >= {None, "dealt", "poly", "meaning", "told"}, found)

    def broken(self, word, circuit, inputs, lot, lies, hall=LARGE, **keywords):
        """The first fault of a run without a rule, with coins that are all 2."""
        each = 2 if hall.kind == "lie" else 1
        products = sum(gate[0] == "product" for gate in circuit.gates)
        coins = {house: (2,) * each * (circuit.houses.count(house) + products) for house in hall.places}
        run = Run(hall, circuit, inputs, coins, without=word, lot=lot, lies=lies, **keywords)
        self.assertEqual(fault(run), fault_by(run))
        return fault(run)

    def test_told_faults(self):
        one = Circuit((("input", 1),), ((0, (2, 3)),))
        bad = {(1, 1, 5): ((0, 0),)}
        self.assertEqual(self.broken("complaints", one, (3,), (1,), bad), ("dealt", 0, 0))
        self.assertEqual(self.broken("answers", one, (3,), (1,), bad), ("dealt", 0, 0))
        self.assertEqual(self.broken("votes", one, (3,), (1,), {**bad, (4, 1, 0): ()}), ("dealt", 0, 0))
        self.assertEqual(self.broken("nearest", one, (3,), (1,), {(6, 1, 3): ()}), ("told", 0, 3))
        zeros = {(6, 3, goal): None for goal in (1, 2, 4, 5)}
        self.assertEqual(self.broken("errors", PRODUCT, (3, 5), (3,), zeros), ("meaning", 2))
        self.assertIsNone(self.broken(None, PRODUCT, (3, 5), (3,), zeros))
        self.assertEqual(self.broken("degree", PRODUCT, (3, 5), (), {}, SMALL), ("poly", 2))
        self.assertEqual(self.broken("degree", PRODUCT, (3, 5), (3,), {}, SMALL), ("meaning", 2))
        # More led houses than the bound tells: their dealings agree on a product that is off.
        lies = {(6, house, goal): None for house in (1, 2) for goal in range(1, 6) if goal != house}
        self.assertEqual(self.broken("bound", PRODUCT, (4, 4), (1, 2), lies), ("meaning", 2))

    def test_who_has_taken_what(self):
        """All shares are 0, whether a dealing is taken or not, but some free houses have taken it, and others have not."""
        circuit = Circuit((("input", 1),), ((0, (2, 3)),))
        lies = {(1, 1, 2): ((1, 1),)}
        for goal, vote in ((2, 1), (3, 1), (4, 0), (5, 0)):
            lies[13, 1, goal] = (vote,)
            lies[15, 1, goal] = ((vote,), (0,), (1,), (1,), (1,))
        coins = {1: (0, 2), 2: (), 3: (), 4: (), 5: ()}
        run = Run(LARGE, circuit, (0,), coins, lot=(1,), lies=lies, lines=True, without="king")
        self.assertEqual([set(run.shares[0][1:]), [(0, 0) in house.taken for house in run.houses.values()][1:]],
                         [{0}, [True, True, False, False]])
        self.assertEqual([fault(run), fault_by(run)], [("dealt", 0, 0)] * 2)
        run = Run(LARGE, circuit, (0,), coins, lot=(1,), lies=lies, lines=True)
        self.assertEqual([fault(run), fault_by(run)], [None] * 2)

    def test_what_led_houses_have_does_not_matter(self):
        # House 1 deals another number than its own; by the first shares, its own one among them, it opens a wrong one.
        circuit = Circuit((("input", 1),), ((0, (1, 3)),))
        lies = {(3, 1, 0): (), (4, 1, 0): (), (6, 1, 3): (5,), **{(1, 1, goal): ((5, 0),) for goal in (2, 3, 4, 5)}}
        run = Run(LARGE, circuit, (3,), {1: (1, 1), 2: (), 3: (), 4: (), 5: ()}, lot=(1,), lies=lies, without="nearest")
        self.assertEqual([run.outputs[0, 3], run.outputs[0, 1] == 5], [5, False])
        self.assertEqual([fault(run), fault_by(run)], [None] * 2)

    def test_errors(self):
        coins = {house: (2,) * (4 if house < 3 else 2) for house in LARGE.places}
        run = Run(LARGE, PRODUCT, (3, 5), coins, lot=(3,), lies={(6, 3, goal): None for goal in (1, 2, 4, 5)})
        right = run.shares[0][2] * run.shares[1][2] % 7
        self.assertNotEqual(right, 0)
        self.assertEqual([product_word(run, 2)[2], errors_in(run, 2), truths(run)], [0, {3: 7 - right}, (3, 5, 1)])
        quiet = Run(LARGE, PRODUCT, (3, 5), coins, lot=(3,))
        self.assertEqual([product_word(quiet, 2)[2], errors_in(quiet, 2)], [right, {}])
        self.assertEqual(product_word(quiet, 2)[:2], product_word(run, 2)[:2])

    def test_not_true(self):
        # The shares of a led house lie on no poly with the others; its committed input is not its own.
        circuit = Circuit((("input", 1),), ((0, (2,)),))
        coins = {house: (1, 1) if house == 1 else () for house in LARGE.places}
        lies = {(3, 1, 0): (), (4, 1, 0): (), **{(1, 1, goal): ((5, 0),) for goal in (2, 3, 4, 5)}}
        run = Run(LARGE, circuit, (3,), coins, lot=(1,), lies=lies)
        self.assertTrue(is_sound(run))
        self.assertEqual([run.committed, run.shares[0][1:]], [(5,), (5,) * 4])
        self.assertNotEqual(run.shares[0][0], 5)
        # A word that is off nowhere, whatever the lot does in other rounds.
        coins = {house: (2,) * (4 if house < 3 else 2) for house in LARGE.places}
        run = Run(LARGE, PRODUCT, (3, 5), coins, lot=(3,), lies={(2, 3, 1): (), (11, 3, 1): ()})
        self.assertEqual(errors_in(run, 2), {})


class RefusalsTest(Case):

    def test_runs(self):
        told = random.Random(5)
        for hall in (SMALL, LARGE):
            inputs, coins = random_parts(told, hall, CHAIN)
            run = Run(hall, CHAIN, inputs, coins, lot=(2,))
            for function in (truths, fault, is_sound):
                self.refuses(function, (run,), (WRONG_RUNS,))
            gates = (InvalidNumber, wrong_numbers(0, 8) + (0, 1, 3, 4, 5, 7, 8))
            for function in (product_word, errors_in):
                for gate in (2, 6):
                    self.refuses(function, (run, gate), (WRONG_RUNS, gates))
        broken = Run(SMALL, PRODUCT, (3, 5), {1: (2, 2), 2: (2, 2), 3: (2,)}, without="degree")
        for function in (product_word, errors_in):
            for gate in gates[1]:
                if gate != 2:
                    self.raises(InvalidNumber, gate, function, broken, gate)
            self.raises(Refused, ("poly", 2), function, broken, 2)
        self.raises(Refused, ("poly", 2), truths, broken)
