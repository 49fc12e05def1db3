"""Stage 15, and what is made of runs: what a run tells is told the same at each reading, and it costs little."""

import random

from evencoins.judge.counts import coin_rows, view_counts
from evencoins.judge.guards import broken_run, is_broken_run, is_explained, is_parted
from evencoins.judge.views import exchanged, is_exchange, made_view
from evencoins.plan.circuits import Circuit
from evencoins.talk.halls import Hall
from evencoins.talk.runs import Run
from evencoins.text.texts import is_tight, told_lies
from tests.helper import LARGE, PRODUCT, SMALL, Case, steps
from tests.talks import BOTH, CHAIN, LIE6, LOOK5, SUM, WIDE, drive, random_lies, random_lot, random_parts

TWICE = Circuit((("input", 1), ("input", 2), ("product", 0, 1), ("product", 2, 2)), ((3, (1, 2, 3)),))
ELEVEN = Hall(11, 5, 1, "lie")
COINS = {house: (1, 2) * (3 if house < 3 else 2) for house in ELEVEN.places}
DICTS = ("coins", "lies", "houses", "letters", "shares", "outputs")


def reported(lines=True):
    """A run of five houses and two products, with a lie."""
    return Run(ELEVEN, TWICE, (3, 5), COINS, lot=(2,), lines=lines, lies={(1, 2, 1): None})


def drawn_runs(seed):
    """Runs of both kinds, with and without lines, with and without lies."""
    told = random.Random(seed)
    for hall, circuit, lines in ((SMALL, PRODUCT, False), (SMALL, CHAIN, True), (LOOK5, SUM, False), (LARGE, CHAIN, False),
                                 (LARGE, BOTH, True), (LIE6, PRODUCT, True), (WIDE, PRODUCT, False)):
        for many in (0, 4, 9):
            lot = random_lot(told, hall) or (2,)
            inputs, coins = random_parts(told, hall, circuit)
            yield Run(hall, circuit, inputs, coins, lot=lot, lines=lines,
                      lies=random_lies(told, hall, circuit, lot, lines and hall.kind == "lie", many))


class SameTest(Case):

    def test_each_letter_by_itself(self):
        self.assertEqual(len(reported().letters), 54 * 20)
        for run in [reported(), reported(False)] + list(drawn_runs(1)):
            whole = run.letters
            self.assertEqual(repr([run.letters[key] for key in whole]), repr(list(whole.values())))
            self.assertEqual(repr(run.letters), repr(whole))
            for key, value in run.lies.items():
                self.assertEqual(run.letters[key], value)
            self.assertEqual(repr(run.view[2]), repr(tuple((key, run.letters[key]) for key in sorted(whole)
                                                           if key[2] in run.lot + (0,))))

    def test_each_letter_by_a_house(self):
        for run in [reported(), reported(False)] + list(drawn_runs(2)):
            whole = run.letters
            for house, each in run.houses.items():
                view = each.view
                self.assertEqual(len(view), run.rounds)
                for number, (letters, texts) in enumerate(view, 1):
                    self.assertEqual(repr((letters, texts)), repr(each.view[number - 1]))
                    self.assertEqual(letters, {sender: whole[number, sender, house] for sender in run.hall.places
                                               if (number, sender, house) in whole})
                    self.assertEqual(texts, {sender: whole[number, sender, 0] for sender in run.hall.places
                                             if (number, sender, 0) in whole})

    def test_each_share_and_output_by_itself(self):
        for run in [reported(), reported(False)] + list(drawn_runs(3)):
            for name in DICTS:
                whole = getattr(run, name)
                self.assertEqual([getattr(run, name)[key] for key in whole], list(whole.values()))

    def test_changed_readings(self):
        for run in [reported(), reported(False)] + list(drawn_runs(4)):
            same = Run(run.hall, run.circuit, run.inputs, run.coins, lot=run.lot, lines=run.lines, lies=run.lies)
            held = {name: getattr(run, name) for name in DICTS}
            before = {name: repr(sorted(held[name].items())) for name in DICTS if name != "houses"}
            views = repr([house.view for house in run.houses.values()])
            for name in DICTS:
                table = getattr(run, name)
                for key in list(table):
                    table[key] = None
                table.clear()
            for house in run.houses.values():
                for name in ("shares", "dealt", "outputs"):
                    getattr(house, name).clear()
                for letters, texts in house.view:
                    letters[1] = texts[1] = (0,)
                    letters.clear()
            # Neither the next reading nor an earlier one tells anything else.
            for name in before:
                self.assertEqual(repr(sorted(getattr(run, name).items())), before[name])
                self.assertEqual(repr(sorted(held[name].items())), before[name])
            self.assertEqual(repr([house.view for house in run.houses.values()]), views)
            self.is_true(run == same)
            self.is_true(run.houses == same.houses)
            self.is_true(is_exchange(run, run.inputs, run.coins))

    def test_houses_of_a_run_equal_driven_ones(self):
        for run in list(drawn_runs(5))[::2]:
            houses, letters = drive(run.hall, run.circuit, run.inputs, run.coins, run.lies, lines=run.lines)
            for house, each in run.houses.items():
                self.is_true(each == houses[house])
                self.is_true(houses[house] == each)
                self.is_false(each != houses[house])
                self.assertEqual(each.secrets(), ())
                for other in run.houses:
                    self.assertIs(each == houses[other], house == other)


class CostTest(Case):

    def test_readings(self):
        small, great = Run(SMALL, SUM, (3, 5), {1: (2,), 2: (4,), 3: ()}, lot=(3,)), reported()
        for name in ("letters", "view", "committed", "inputs"):
            few = steps(lambda: getattr(small, name))
            self.assertEqual(steps(lambda: getattr(great, name)), few, name)
            self.assertLess(few, 30)
        making = steps(reported)
        self.assertLess(steps(lambda: [great.letters[key] for key in great.letters]), making)
        self.assertLess(20 * steps(lambda: great.houses[1].view), making)
        for name in DICTS:
            self.assertLess(100 * steps(lambda: getattr(great, name)), making, name)

    def test_making(self):
        for lines in (False, True):
            making = steps(lambda: reported(lines))
            driving = steps(lambda: drive(ELEVEN, TWICE, (3, 5), COINS, {(1, 2, 1): None}, lines=lines))
            self.assertLess(3 * making, driving)

    def test_lies_that_tell_what_the_rules_do(self):
        for lines, most in ((False, 2), (True, 4)):
            run = reported(lines)
            self.assertLess(steps(lambda: told_lies(run)), most * steps(lambda: reported(lines)))

    def test_counts(self):
        hall, coins = Hall(5, 3, 1, "look"), {1: (2, 1), 2: (4, 3), 3: (2,)}
        one = steps(lambda: Run(hall, PRODUCT, (1, 2), coins, lot=(3,)))
        rows = len(list(coin_rows(hall, PRODUCT, (3,))))
        self.assertEqual(rows, 625)
        self.assertLess(2 * steps(lambda: view_counts(hall, PRODUCT, (1, 2), (3,), {3: (2,)}, {})), rows * one)
        run = Run(hall, Circuit(PRODUCT.gates, ((2, (1,)),)), (3, 4), coins, lot=(3,), without="coins")
        self.is_true(is_parted(run, (0, 0)))
        self.assertLess(2 * steps(lambda: is_parted(run, (0, 0))), rows * one)

    def test_courses(self):
        # What asks for a view, or for outputs alone, makes no run.
        for lines in (False, True):
            run = reported(lines)
            one = steps(lambda: reported(lines))
            other = exchanged(run, (4, 5))
            self.assertLess(steps(lambda: is_exchange(run, (4, 5), other)), one)
            self.assertLess(steps(lambda: made_view(ELEVEN, TWICE, (2,), {1: 5}, {0: 3}, COINS, lines=lines)), one)
        for word in ("complaints", "votes", "errors", "nearest", "king"):
            value = broken_run(word)
            _, hall, circuit, inputs, coins, lot, lies, lines = value
            one = steps(lambda: Run(hall, circuit, inputs, coins, lot=lot, lies=lies, lines=lines, without=word))
            self.assertLess(steps(lambda: is_broken_run(word, value)), one, word)

    def test_explained(self):
        # With other inputs of the lot no circuit tells 9 and 11: all 961 pairs of them are tried.
        hall = Hall(31, 5, 1, "lie")
        circuit = Circuit((("input", 2), ("input", 2), ("product", 0, 1), ("constant", 1), ("sum", 2, 3)), ((4, (3, 4)),))
        coins = {house: (1, 2) * (3 if house == 2 else 1) for house in hall.places}
        lies = {(12, 2, goal): (number,) for goal, number in ((3, 9), (4, 11))}
        run = Run(hall, circuit, (3, 4), coins, lot=(2,), lies=lies, without="nearest")
        self.assertEqual(len(set(run.outputs.values())), 2)
        self.is_false(is_explained(run))
        self.assertLess(steps(lambda: is_explained(run)), 961 * 60)

    def test_tight(self):
        lies = {(number, 2, goal): None for number in (1, 2) for goal in (1, 3, 4, 5)}
        run = Run(ELEVEN, TWICE, (3, 5), COINS, lot=(2,), lies=lies)
        one = steps(lambda: Run(ELEVEN, TWICE, (3, 5), COINS, lot=(2,), lies=lies))
        self.assertLess(steps(lambda: is_tight(run, lambda other: other.outputs == run.outputs)), 9 * one)
