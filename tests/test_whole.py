"""The main statements, over the whole program: from programs to runs among liars, their views and their texts."""

import random

from evencoins.judge.guards import is_explained
from evencoins.judge.schemes import least_parted, scheme_of
from evencoins.judge.sound import is_sound
from evencoins.judge.views import are_alike, exchanged, is_exchange, made_view
from evencoins.plan.compiled import compiled, merged
from evencoins.plan.programs import run_program, straight
from evencoins.talk.halls import Hall
from evencoins.talk.runs import Run
from evencoins.text.texts import read_run, run_text, told_lies
from tests.helper import LARGE, SMALL, Case, keyed
from tests.talks import LIE6, LOOK5, WIDE, drive, random_lies, random_lot, random_parts
from tests.test_views import other_inputs, told_to_lot

PROGRAMS = (
    (("take", "x", 1), ("take", "y", 2), ("tell", ("equal", "x", "y"), (1, 2, 3))),
    (("take", "x", 2), ("take", "y", 3), ("let", "d", ("minus", "x", "y")), ("tell", ("times", "d", "d"), (1, 3)),
     ("tell", ("plus", "d", 3), (2,))),
    (("take", "x", 1), ("repeat", 2, (("let", "x", ("times", "x", "x")),)), ("take", "y", 3), ("tell", ("plus", "x", "y"), (2, 3))),
    (("take", "b", 3), ("take", "x", 1), ("take", "y", 2), ("tell", ("choose", "b", "x", "y"), (1, 2, 3)),
     ("tell", ("table", "x", ((0, 1), (1, 0), (2, 4))), (3,)), ("tell", 2, (1,))),
    (("take", "x", 1), ("take", "x", 1), ("let", "s", ("power", "x", 3)), ("repeat", 0, (("let", "z", ("times", "s", "s")),)),
     ("tell", ("plus", "s", "z"), (2,))),
    (("take", "x", 3), ("take", "y", 1), ("tell", ("minus", ("times", 3, "x"), "y"), (1, 2, 3))),
)


class WholeTest(Case):

    def circuits(self, field, program):
        """The circuits of a program."""
        circuit = compiled(field, program)
        return circuit, merged(circuit), compiled(field, straight(program))

    def is_right(self, run, program):
        """[0.12] The free houses end with what the program tells for the committed inputs."""
        told = run_program(run.hall.field, program, run.committed)
        for (index, house), number in run.outputs.items():
            if house not in run.lot:
                self.assertEqual(number, told[index])
        free = [(index, house) for index, (_, houses) in enumerate(run.circuit.outputs) for house in houses
                if house not in run.lot]
        self.assertEqual([pair for pair in run.outputs if pair[1] not in run.lot], free)
        for house, number, committed in zip(run.circuit.houses, run.inputs, run.committed):
            self.assertTrue(number == committed or house in run.lot)
        self.is_true(is_sound(run))

    def runs(self, told, halls, many):
        """Runs of all programs."""
        for hall in halls:
            for program in PROGRAMS:
                for circuit in self.circuits(hall.field, program)[:many]:
                    for lines in (False, True) if hall.kind == "lie" and len(circuit.levels) < 3 else (False,):
                        lot = random_lot(told, hall)
                        inputs, coins = random_parts(told, hall, circuit)
                        lies = random_lies(told, hall, circuit, lot, lines, told.choice((1, 4, 8)))
                        yield program, Run(hall, circuit, inputs, coins, lot=lot, lies=lies, lines=lines)

    def test_right(self):
        for program, run in self.runs(random.Random(1), (SMALL, LOOK5, LARGE, LIE6), 3):
            self.is_right(run, program)

    def test_nine_houses(self):
        for program, run in self.runs(random.Random(2), (Hall(11, 9, 4, "look"), WIDE), 1):
            self.is_right(run, program)

    def test_even_and_made(self):
        """[0.13] and [0.14] The exchange keeps the view of alike inputs; the view is made of own inputs and outputs."""
        told = random.Random(3)
        alike = 0
        for _, run in self.runs(told, (SMALL, LOOK5, LARGE), 1):
            inputs = other_inputs(told, run, True)
            coins = exchanged(run, inputs)
            self.assertIs(is_exchange(run, inputs, coins), are_alike(run, inputs))
            alike += are_alike(run, inputs)
            zeros = tuple(number if house in run.lot else 0 for house, number in zip(run.circuit.houses, run.inputs))
            own = {gate: number for gate, number, house in zip(run.circuit.inputs, run.inputs, run.circuit.houses)
                   if house in run.lot}
            call = keyed(made_view, 6, "lines", "lies")
            self.assertEqual(run.view, call(run.hall, run.circuit, run.lot, own, told_to_lot(run, run.inputs),
                                            exchanged(run, zeros), run.lines, run.lies))
        self.assertGreater(alike, 10)

    def test_no_foe_is_stronger(self):
        """[0.15] A foe that chooses by what its house has seen makes the run of a dict of lies."""
        told = random.Random(4)
        program = PROGRAMS[3]
        circuit = compiled(7, program)
        for _ in range(6):
            lot = (told.choice(LARGE.places),)
            inputs, coins = random_parts(told, LARGE, circuit)
            lies = {}
            # Round by round the foe tells what its view so far comes to.
            quiet = Run(LARGE, circuit, inputs, coins, lot=lot)
            for key in sorted(quiet.letters):
                if key[1] in lot and told.randrange(3) == 0:
                    seen = Run(LARGE, circuit, inputs, coins, lot=lot, lies=lies).view[2]
                    heard = [letter for (number, _, _), letter in seen if number < key[0]]
                    lies[key] = (len(repr(heard)) % 7,) if told.randrange(2) else heard[-1] if heard else None
            run = Run(LARGE, circuit, inputs, coins, lot=lot, lies=lies)
            self.is_right(run, program)
            self.assertEqual(told_lies(run).view, run.view)
            self.assertEqual(drive(LARGE, circuit, inputs, coins, lies)[1], run.letters)

    def test_texts_of_runs(self):
        for _, run in self.runs(random.Random(5), (SMALL, LARGE), 1):
            back = read_run(run_text(run))
            self.is_true(back == run)
            self.assertEqual(back.outputs, run.outputs)
            if run.hall.field < 31 and len([house for house in run.circuit.houses if house in run.lot]) < 3:
                self.is_true(is_explained(run))

    def test_talks_as_rows(self):
        circuit = compiled(7, PROGRAMS[5])
        self.assertIsNone(least_parted(scheme_of(SMALL, circuit), 1))

    def test_not_true(self):
        # [0.18] What a lot sees hangs on coins, too; and on what a product tells together with its own number.
        program = PROGRAMS[1]
        circuit = compiled(7, program)
        told = random.Random(6)
        inputs, coins = random_parts(told, SMALL, circuit)
        others = {house: tuple((coin + 1) % 7 for coin in row) for house, row in coins.items()}
        runs = [Run(SMALL, circuit, inputs, table, lot=(1,)) for table in (coins, others)]
        self.assertNotEqual(runs[0].view[2], runs[1].view[2])
        self.assertEqual(runs[0].outputs, runs[1].outputs)
