"""Stage 22: each rule is needed."""

import random
from itertools import product

from evencoins.errors import InvalidInputs, InvalidRun, TooMany, UnknownName
from evencoins.judge.guards import RULES, broken_run, is_broken_run, is_explained, is_parted
from evencoins.judge.views import are_alike
from evencoins.plan.circuits import Circuit
from evencoins.talk.halls import Hall, coins_of
from evencoins.talk.runs import Run
from evencoins.talk.seats import RULE_WORDS
from tests.helper import LARGE, LONG, ODD, PRODUCT, SMALL, WRONG_CIRCUITS, WRONG_HALLS, Case, all_rows, wrong_rows
from tests.talks import BOTH, CHAIN, LOOK5, SUM, random_lies, random_lot, random_parts
from tests.test_counts import FIVE3, ONE, SECRET, coin_tables, free_of
from tests.test_halls import PLAIN
from tests.test_runs import LOTS
from tests.test_views import WRONG_RUNS

TO_THREE = Circuit(PRODUCT.gates, ((2, (3,)),))
ROWS = {1: (2, 1), 2: (4, 3), 3: (5,)}


def explained_by(run):
    """Whether some inputs of the lot explain the outputs of the free houses."""
    circuit, p = run.circuit, run.hall.field
    for row in product(*[range(p) if house in run.lot else (number,)
                         for house, number in zip(circuit.houses, run.inputs)]):
        told = circuit.told(p, row)
        if all(told[index] == number for (index, house), number in run.outputs.items() if house not in run.lot):
            return True
    return False


def parted_by(run, inputs):
    """Whether no coins of the free houses make the view with alike inputs."""
    if not are_alike(run, inputs):
        return False
    for table in coin_tables(run.hall, run.circuit, free_of(run.hall, run.lot)):
        other = Run(run.hall, run.circuit, inputs, {**run.coins, **table}, lot=run.lot, lies=run.lies, lines=run.lines,
                    without=run.without)
        if other.view == run.view:
            return False
    return True


class ExamplesTest(Case):

    def test_examples(self):
        runs = [Run(SMALL, TO_THREE, (3, 5), ROWS, without=word) for word in (None, "degree")]
        self.assertEqual([run.outputs for run in runs], [{(0, 3): 1}, {(0, 3): 6}])
        self.assertEqual([is_explained(run) for run in runs], [True, False])
        self.assertEqual([is_broken_run(word, broken_run(word)) for word in RULES], [True] * 9)
        self.raises(UnknownName, "rows", broken_run, "rows")

    def test_words(self):
        self.assertEqual(RULES, ("coins", "degree", "complaints", "answers", "votes", "errors", "nearest", "king", "bound"))
        self.assertEqual(RULES, RULE_WORDS)


class ExplainedTest(Case):

    def test_all_rules(self):
        told = random.Random(1)
        for hall, circuit, lines in ((SMALL, CHAIN, False), (LOOK5, BOTH, False), (LARGE, BOTH, False), (LARGE, CHAIN, False),
                                     (LARGE, PLAIN, True), (LARGE, SUM, True)):
            for index in range(5):
                lot = random_lot(told, hall)
                inputs, coins = random_parts(told, hall, circuit)
                lies = random_lies(told, hall, circuit, lot, lines, (1, 4, 9)[index % 3])
                run = Run(hall, circuit, inputs, coins, lot=lot, lies=lies, lines=lines)
                self.assertTrue(explained_by(run))
                self.same(True, is_explained, run)

    def test_without_a_rule(self):
        told = random.Random(2)
        found = {True: 0, False: 0}
        for word in RULES:
            for hall, circuit, lines in ((SMALL, TO_THREE, False), (SMALL, CHAIN, False), (LARGE, BOTH, False),
                                         (LARGE, PLAIN, True), (LARGE, SUM, False), (LARGE, CHAIN, False)):
                for index in range(3):
                    lot = random_lot(told, hall)
                    if word == "bound":
                        lot = tuple(sorted(told.sample(hall.places, hall.most + 1)))
                    inputs, coins = random_parts(told, hall, circuit)
                    lies = random_lies(told, hall, circuit, lot, lines, (1, 4, 9)[index % 3])
                    run = Run(hall, circuit, inputs, coins, lot=lot, lies=lies, lines=lines, without=word)
                    right = explained_by(run)
                    found[right] += 1
                    self.same(right, is_explained, run)
        self.assertGreater(min(found.values()), 8)

    def test_bounds(self):
        three = Circuit((("input", 1),) * 3 + (("input", 2),), ((0, (3,)),))
        coins = {1: (1,) * 3, 2: (2,), 3: ()}
        self.raises(TooMany, 2, is_explained, Run(SMALL, three, (1, 2, 3, 4), coins, lot=(1,)))
        self.same(True, is_explained, Run(SMALL, three, (1, 2, 3, 4), coins, lot=(2,)))
        self.same(True, is_explained, Run(SMALL, three, (1, 2, 3, 4), coins))
        for field, right in ((31, True), (37, None)):
            hall = Hall(field, 3, 1, "look")
            for lot in ((), (3,), (2,)):
                run = Run(hall, SUM, (1, 2), {1: (1,), 2: (2,), 3: ()}, lot=lot)
                if right:
                    self.same(True, is_explained, run)
                else:
                    self.raises(TooMany, 31, is_explained, run)
            if not right:
                self.raises(TooMany, 2, is_explained, Run(hall, three, (1, 2, 3, 4), coins, lot=(1,)))

    def test_led_inputs_explain(self):
        # House 1 is led: whatever house 3 is told, some input of house 1 explains it, if it is told nothing else.
        run = Run(LARGE, Circuit((("input", 1),), ((0, (3,)),)), (3,), {1: (1, 2), 2: (), 3: (), 4: (), 5: ()}, lot=(1,),
                  lies={(6, 1, 3): ()}, without="nearest")
        self.assertNotEqual(run.outputs[0, 3], 3)
        self.same(True, is_explained, run)
        both = Circuit((("input", 1),), ((0, (3,)), (0, (4,))))
        run = Run(LARGE, both, (3,), {1: (1, 2), 2: (), 3: (), 4: (), 5: ()}, lot=(1,), lies={(6, 1, 3): ()},
                  without="nearest")
        self.same(False, is_explained, run)

    def test_not_true(self):
        # A run without a rule and without lies, but for "degree", is explained.
        told = random.Random(3)
        for word in RULES:
            for hall in (SMALL, LARGE):
                inputs, coins = random_parts(told, hall, CHAIN)
                right = explained_by(Run(hall, CHAIN, inputs, coins, without=word))
                self.assertTrue(right or (word, hall) == ("degree", SMALL))
        # Without "votes" an honest dealer's number stays.
        inputs, coins = random_parts(told, LARGE, SUM)
        lies = random_lies(told, LARGE, SUM, (4,), many=9)
        run = Run(LARGE, SUM, inputs, coins, lot=(4,), lies=lies, without="votes")
        self.assertEqual([run.shares[0], run.committed], [Run(LARGE, SUM, inputs, coins, lot=(4,)).shares[0], inputs])


class PartedTest(Case):

    def test_all_rules(self):
        told = random.Random(4)
        for hall, circuit, lot in ((FIVE3, SUM, (3,)), (FIVE3, SECRET, (3,)), (LARGE, ONE, (3,)), (LARGE, ONE, (2,)),
                                   (FIVE3, SUM, (1,))):
            inputs, coins = random_parts(told, hall, circuit)
            lies = random_lies(told, hall, circuit, lot, many=4)
            run = Run(hall, circuit, inputs, coins, lot=lot, lies=lies)
            for other in told.sample(all_rows(hall.field, len(inputs)), 5):
                self.same(False, is_parted, run, other)

    def test_without_a_rule(self):
        told = random.Random(5)
        found = {True: 0, False: 0}
        square = Circuit((("input", 1), ("product", 0, 0)), ((1, (1,)),))
        for word in RULES:
            for hall, circuit, lot in ((FIVE3, square, (3,)), (FIVE3, SUM, (3,)), (LARGE, ONE, (3,)), (LARGE, ONE, (2,)),
                                       (FIVE3, Circuit(ONE.gates, ((0, (1,)),)), (2, 3))):
                if len(lot) <= hall.most or word == "bound":
                    inputs, coins = random_parts(told, hall, circuit)
                    lies = random_lies(told, hall, circuit, lot, many=3)
                    run = Run(hall, circuit, inputs, coins, lot=lot, lies=lies, without=word)
                    for other in told.sample(all_rows(hall.field, len(inputs)), 2):
                        right = parted_by(run, other)
                        found[right] += 1
                        self.same(right, is_parted, run, other)
        self.assertGreater(min(found.values()), 1)

    def test_lines(self):
        told = random.Random(6)
        inputs, coins = random_parts(told, LARGE, ONE)
        lies = random_lies(told, LARGE, ONE, (2,), True, 3)
        for word in ("king", None):
            run = Run(LARGE, ONE, inputs, coins, lot=(2,), lies=lies, lines=True, without=word)
            for other in ((0,), (3,)):
                self.same(parted_by(run, other), is_parted, run, other)

    def test_bounds(self):
        for field, many in ((691, 691), (701, None)):
            hall = Hall(field, 3, 1, "look")
            run = Run(hall, ONE, (3,), {1: (5,), 2: (), 3: ()}, lot=(2,))
            if many:
                self.same(False, is_parted, run, (4,))
            else:
                self.raises(TooMany, 700, is_parted, run, (4,))
                self.raises(InvalidInputs, None, is_parted, run, (4, 4))
        # Inputs that are not alike are refused, too, if there are too many rows.
        run = Run(SMALL, PRODUCT, (3, 5), {1: (2, 1), 2: (4, 3), 3: (5,)})
        self.raises(TooMany, 700, is_parted, run, (3, 6))
        self.assertFalse(is_parted(Run(FIVE3, SUM, (1, 2), {1: (1,), 2: (1,), 3: ()}, lot=(3,)), (1, 3)))
        self.assertFalse(is_parted(Run(FIVE3, SUM, (1, 2), {1: (1,), 2: (1,), 3: ()}, lot=(1,)), (2, 1)))


class BrokenTest(Case):

    def run_of(self, word, value):
        """The run of a value."""
        lines = value[7] if value[0] == "wrong" else False
        return Run(*value[1:5], lot=value[5], lies=value[6], lines=lines, without=word)

    def is_right(self, word, value):
        """Whether the parts tell a run that is broken without the rule."""
        run = self.run_of(word, value)
        return parted_by(run, value[7]) if value[0] == "parted" else not explained_by(run)

    def test_each_rule(self):
        for word in RULES:
            value = broken_run(word)
            self.assertEqual(broken_run(word), value)
            self.assertTrue(self.is_right(word, value))
            self.assertIs(type(value[6]), dict)
            # With all rules, and no more led houses than the bound tells, nothing of this is wrong.
            if word != "bound":
                lines = value[7] if value[0] == "wrong" else False
                run = Run(*value[1:5], lot=value[5], lies=value[6], lines=lines)
                self.assertTrue(explained_by(run) if value[0] == "wrong" else not is_parted(run, value[7]))

    def test_with_other_words(self):
        for word in RULES:
            value = broken_run(word)
            for other in RULES:
                if len(value[5]) > value[1].most and other != "bound":
                    self.same(False, is_broken_run, other, value)
                elif value[0] == "wrong" or word == other:
                    self.same(self.is_right(other, value), is_broken_run, other, value)

    def test_spoilt(self):
        for word in RULES:
            value = broken_run(word)
            for index in range(8):
                for odd in ODD + WRONG_HALLS + (0, 1):
                    # Other lines, no lot and no lies can be right, too.
                    if repr(odd) not in (repr(value[index]), "{}", "()", "True") and (index != 2 or odd != value[2]):
                        self.is_false(is_broken_run(word, value[:index] + (odd,) + value[index + 1:]), (word, index, odd))
                self.is_false(is_broken_run(word, value[:index] + value[index + 1:]))
            self.is_false(is_broken_run(word, value + (None,)))
            self.is_false(is_broken_run(word, list(value)))
            other = "wrong" if value[0] == "parted" else "parted"
            self.is_false(is_broken_run(word, (other,) + value[1:]))
            for circuit in WRONG_CIRCUITS:
                self.is_false(is_broken_run(word, value[:2] + (circuit,) + value[3:]))
            for lot in LOTS[1]:
                if lot != value[5] and word != "bound":
                    self.is_false(is_broken_run(word, value[:5] + (lot,) + value[6:]))
            self.is_false(is_broken_run(word, value[:6] + (None,) + value[7:]))
            self.judges(is_broken_run, (word,))

    def test_others(self):
        """Broken runs of the tests' own."""
        value = ("wrong", SMALL, TO_THREE, (3, 5), ROWS, (), {}, False)
        self.is_true(is_broken_run("degree", value))
        self.is_true(is_broken_run("degree", value[:7] + (True,)))
        for word in RULES:
            self.assertIs(is_broken_run(word, value), word == "degree")
        own = Circuit(ONE.gates, ((0, (1,)),))
        value = ("parted", FIVE3, own, (1,), {1: (1,), 2: (), 3: ()}, (2, 3), {}, (0,))
        self.is_true(is_broken_run("bound", value))
        self.is_false(is_broken_run("bound", value[:7] + ((1,),)))
        self.is_false(is_broken_run("bound", value[:7] + ((True,),)))
        self.is_false(is_broken_run("bound", value[:5] + ((3,),) + value[6:]))
        # With lies on the wall; a parted run has a wall.
        coins = {1: (1, 2), 2: (), 3: (), 4: (), 5: ()}
        for lies, right in (({}, True), ({(5, 2, 0): ()}, True), ({(5, 2, 1): ()}, False), ({(7, 2, 1): ()}, False)):
            value = ("parted", LARGE, own, (1,), coins, (2, 3), lies, (0,))
            self.assertIs(is_broken_run("bound", value), right)
        value = ("parted", FIVE3, SECRET, (1, 1), {1: (1, 1), 2: (2, 2), 3: (3,)}, (3,), {}, (0, 0))
        self.is_true(is_broken_run("coins", value))
        self.is_false(is_broken_run("coins", value[:7] + ((1, 1),)))

    def test_bounds(self):
        # Three inputs of the lot; a field above 31; too many coins.
        coins = {1: (1, 2) * 3, 2: (), 3: (), 4: (), 5: ()}
        for many, right in ((2, True), (3, False)):
            circuit = Circuit((("input", 1),) * many, ((0, (2, 3)),))
            value = ("wrong", LARGE, circuit, (3,) * many, {**coins, 1: (1, 2) * many}, (1,), {(6, 1, 3): ()}, False)
            run = self.run_of("nearest", value)
            self.assertFalse(explained_by(run))
            self.assertIs(is_broken_run("nearest", value), right)
        for field, right in ((31, True), (37, False)):
            hall = Hall(field, 3, 1, "look")
            value = ("wrong", hall, TO_THREE, (3, 5), ROWS, (), {}, False)
            self.assertFalse(explained_by(self.run_of("degree", value)))
            self.assertIs(is_broken_run("degree", value), right)
        own = Circuit(ONE.gates, ((0, (1,)),))
        for field, right in ((691, True), (701, False)):
            value = ("parted", Hall(field, 3, 1, "look"), own, (1,), {1: (1,), 2: (), 3: ()}, (2, 3), {}, (0,))
            self.assertIs(is_broken_run("bound", value), right)


class RefusalsTest(Case):

    WORDS = (UnknownName, ("rows", "Coins", "", None, True, False, 0, (), ("coins",), ["coins"], {}, SMALL, LONG, "bound "))

    def test_words(self):
        self.refuses(broken_run, ("coins",), (self.WORDS,))
        self.refuses(is_broken_run, ("coins", None), (self.WORDS, (None, ())))

    def test_runs(self):
        run = Run(FIVE3, SUM, (1, 2), {1: (1,), 2: (1,), 3: ()}, lot=(3,))
        self.refuses(is_explained, (run,), (WRONG_RUNS,))
        self.refuses(is_parted, (run, (1, 2)), (WRONG_RUNS, (InvalidInputs, wrong_rows(5, 2) + ((), (1,), (1, 2, 3)))))
        self.assertIs(InvalidRun, WRONG_RUNS[0])
        self.assertEqual(coins_of(FIVE3, SUM, 3), 0)
