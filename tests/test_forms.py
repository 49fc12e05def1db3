"""Stage 7: forms, and circuits that are alike or parted."""

import random
from itertools import product

from evencoins.errors import InvalidCircuit, InvalidNumber, InvalidOperation, TooMany
from evencoins.plan.circuits import Circuit, alike_or_parted, form_of, is_parting, pruned
from tests.helper import ODD, WRONG_FIELDS, Case, all_rows, wrong_numbers, wrong_rows
from tests.test_circuits import GATES, OUTPUTS, C, random_circuit

FIELD = (InvalidNumber, WRONG_FIELDS)
CIRCUIT = (InvalidCircuit, [odd for odd in ODD if not isinstance(odd, Circuit)] + [(GATES, OUTPUTS), str(C)])
OTHER = Circuit(GATES[:3] + (("product", 0, 1),), ((3, (1, 3)),))


class Builder:
    """Gates, put one behind the other."""

    def __init__(self, inputs, houses=None):
        self.gates = [("input", (houses or range(1, 10))[k]) for k in range(inputs)]

    def put(self, *gate):
        self.gates.append(gate)
        return len(self.gates) - 1

    def total(self, indices):
        found = indices[0]
        for index in indices[1:]:
            found = self.put("sum", found, index)
        return found

    def circuit(self, *goals):
        return Circuit(tuple(self.gates), tuple((goal, (1,)) for goal in goals))


def form_value(field, form, numbers):
    """The value of a form at all its letters."""
    total = 0
    for exponents, x in form.items():
        for number, exponent in zip(numbers, exponents):
            x = x * number ** exponent
        total += x
    return total % field


def two_thousand(more):
    """A circuit with eight inputs whose last gate has 2000 terms, or some more."""
    builder = Builder(8, [1] * 8)
    one = builder.put("constant", 1)
    s = builder.total([0, 1, 2, 3])
    u = builder.total([4, 5, 6, 7])
    s2 = builder.put("product", s, s)
    u2 = builder.put("product", u, u)
    first = builder.total([builder.put("product", s2, s2), s, one])
    second = builder.total([builder.put("product", u2, u2), u2, u, one])
    found = builder.put("product", first, second)
    if more:
        found = builder.put("sum", found, builder.put("product", 0, 0))
    return builder, found


class FormsTest(Case):

    def is_form(self, field, circuit, gate, every):
        form = form_of(field, circuit, gate)
        self.assertIs(type(form), dict)
        self.assertEqual(list(form), sorted(form))
        for exponents, x in form.items():
            self.assertEqual((type(exponents), len(exponents)), (tuple, len(circuit.inputs)))
            self.assertTrue(all(type(e) is int and 0 <= e < field for e in exponents))
            self.assertTrue(type(x) is int and 0 < x < field)
        for numbers in every:
            self.assertEqual(form_value(field, form, numbers), circuit.meaning(field, numbers)[gate])

    def test_examples(self):
        self.assertEqual(form_of(5, C, 4), {(0, 2): 1, (1, 1): 1})

    def test_forms_against_meanings(self):
        told = random.Random(5)
        for inputs, field, many in ((1, 5, 30), (2, 5, 40), (3, 5, 12), (1, 7, 10), (2, 7, 10), (1, 31, 5)):
            every = all_rows(field, inputs)
            for _ in range(many):
                circuit = random_circuit(told, inputs, 24, 9)
                for gate in range(0, 24, 3):
                    self.is_form(field, circuit, gate, every)

    def test_equal_exactly_for_equal_numbers(self):
        told = random.Random(6)
        for _ in range(15):
            circuit = random_circuit(told, 2, 30, 12)
            tables = [circuit.meaning(5, numbers) for numbers in all_rows(5, 2)]
            forms = [form_of(5, circuit, gate) for gate in range(30)]
            for one in range(30):
                for other in range(one):
                    alike = all(table[one] == table[other] for table in tables)
                    self.assertEqual(forms[one] == forms[other], alike)

    def test_of_each_gate(self):
        gates = (("input", 1), ("constant", 0), ("constant", 7), ("constant", 996), ("input", 2), ("sum", 0, 0),
                 ("times", 0, 7), ("times", 4, 996), ("sum", 5, 7), ("product", 8, 3), ("product", 6, 9), ("sum", 1, 2))
        circuit = Circuit(gates, ((0, (1,)),))
        right = [{(1, 0): 1}, {}, {}, {(0, 0): 2}, {(0, 1): 1}, {(1, 0): 2}, {}, {(0, 1): 2}, {(0, 1): 2, (1, 0): 2},
                 {(0, 1): 4, (1, 0): 4}, {}, {}]
        self.assertEqual([form_of(7, circuit, gate) for gate in range(12)], right)
        self.assertEqual(form_of(997, circuit, 3), {(0, 0): 996})
        self.assertEqual(list(form_of(7, circuit, 8)), [(0, 1), (1, 0)])

    def test_no_inputs(self):
        circuit = Circuit((("constant", 3), ("times", 0, 4), ("constant", 5)), ((1, (1,)),))
        self.assertEqual([form_of(7, circuit, gate) for gate in range(3)], [{(): 3}, {(): 5}, {(): 5}])
        self.assertEqual(form_of(5, circuit, 2), {})

    def test_lowered_exponents(self):
        gates = (("input", 3),) + tuple(("product", k, 0) for k in range(12))
        circuit = Circuit(gates, ((12, (1,)),))
        for field in (5, 7, 11, 13):
            for gate in range(13):
                exponent = gate + 1
                while exponent > field - 1:
                    exponent -= field - 1
                self.assertEqual(form_of(field, circuit, gate), {(exponent,): 1})
        self.assertEqual([list(form_of(5, circuit, gate)) for gate in (3, 4, 7, 8)], [[(4,)], [(1,)], [(4,)], [(1,)]])
        squares = (("input", 3), ("input", 4), ("product", 0, 1)) + tuple(("product", k, k) for k in range(2, 13))
        circuit = Circuit(squares, ((12, (1,)),))
        for field in (5, 7, 31, 997):
            for gate in range(3, 14):
                exponent = 2 ** (gate - 2)
                while exponent > field - 1:
                    exponent -= field - 1
                self.assertEqual(form_of(field, circuit, gate), {(exponent, exponent): 1})

    def test_all_vanish(self):
        builder = Builder(1)
        x2 = builder.put("product", 0, 0)
        x5 = builder.put("product", builder.put("product", x2, x2), 0)
        gone = builder.put("sum", x5, builder.put("times", 0, 4))
        circuit = builder.circuit(gone)
        self.assertEqual(form_of(5, circuit, gone), {})
        self.assertEqual(form_of(7, circuit, gone), {(1,): 4, (5,): 1})
        self.assertEqual(form_of(5, builder.circuit(builder.put("product", gone, 0)), gone + 1), {})

    def test_eight_letters(self):
        builder = Builder(8)
        total = builder.total(list(range(8)))
        square = builder.put("product", total, total)
        form = form_of(997, builder.circuit(square), square)
        self.assertEqual(len(form), 36)
        self.assertEqual(list(form), sorted(form))
        self.assertEqual(form[(2,) + (0,) * 7], 1)
        self.assertEqual(form[(1,) + (0,) * 6 + (1,)], 2)
        self.assertEqual(set(sum(exponents) for exponents in form), {2})

    def test_most_terms(self):
        builder, gate = two_thousand(False)
        circuit = builder.circuit(gate)
        for field in (5, 7, 997):
            form = form_of(field, circuit, gate)
            self.assertEqual(len(form), 2000)
            numbers = (3, 1, 4, 1, 2, 2, 0, 3)
            self.assertEqual(form_value(field, form, numbers), circuit.meaning(field, numbers)[gate])
        builder, gate = two_thousand(True)
        zero = builder.put("times", gate, 0)
        behind = builder.put("sum", zero, 0)
        apart = builder.put("sum", 0, 1)
        circuit = builder.circuit(behind)
        for field in (5, 7, 997):
            for index in (gate, zero, behind):
                self.raises(TooMany, 2000, form_of, field, circuit, index)
            self.assertEqual(form_of(field, circuit, apart), {(0, 1) + (0,) * 6: 1, (1,) + (0,) * 7: 1})
            self.assertEqual(len(form_of(field, circuit, gate - 2)), 2000)

    def test_forms_are_nobody_elses(self):
        form_of(5, C, 4)[(0, 2)] = 3
        self.assertEqual(form_of(5, C, 4), {(0, 2): 1, (1, 1): 1})

    def test_not_the_same_for_all_fields(self):
        gates = (("input", 1), ("times", 0, 5), ("constant", 0))
        one, other = Circuit(gates, ((1, (1,)),)), Circuit(gates, ((2, (1,)),))
        self.assertEqual(alike_or_parted(5, one, other), ("alike",))
        self.assertEqual(alike_or_parted(7, one, other), ("parted", 0, (1,)))

    def test_refused(self):
        self.refuses(form_of, (7, C, 4), (FIELD, CIRCUIT, (InvalidNumber, wrong_numbers(0, 4))))
        builder, gate = two_thousand(True)
        circuit = builder.circuit(gate)
        self.refuses(form_of, (7, circuit, gate - 2), (FIELD, CIRCUIT, (InvalidNumber, wrong_numbers(0, gate))), [
            (TooMany, 2000, (7, circuit, gate))])


class PartedTest(Case):

    def test_examples(self):
        self.assertEqual(alike_or_parted(5, C, OTHER), ("parted", 0, (0, 1)))

    def is_right(self, field, one, other):
        every = all_rows(field, len(one.inputs))
        tables = [[circuit.told(field, numbers) for numbers in every] for circuit in (one, other)]
        parted = [(index, numbers) for index in range(len(one.outputs))
                  for numbers, x, y in zip(every, *tables) if x[index] != y[index]]
        right = ("parted",) + parted[0] if parted else ("alike",)
        self.assertEqual(alike_or_parted(field, one, other), right)
        for index in range(len(one.outputs)):
            for numbers in every:
                self.assertIs(is_parting(field, one, other, index, numbers), (index, numbers) in parted)
        return right[0]

    def test_parted(self):
        told = random.Random(12)
        words = []
        for inputs, field, many in ((1, 5, 40), (2, 5, 60), (2, 7, 15), (3, 5, 10), (1, 31, 10)):
            for _ in range(many):
                one = random_circuit(told, inputs, 20, 9, outputs=3)
                found = list(one.gates)
                for _ in range(told.randrange(1, 4)):
                    index = told.randrange(20)
                    if found[index][0] in ("sum", "product"):
                        found[index] = found[index][:1] + found[index][:0:-1]
                    elif found[index][0] in ("times", "constant"):
                        found[index] = found[index][:-1] + ((found[index][-1] + told.choice((field, 1))) % 997,)
                goals = tuple((index, houses) for index, (_, houses) in zip(told.sample(range(20), 3), one.outputs))
                other = Circuit(tuple(found), goals if told.randrange(3) == 0 else one.outputs)
                words.append(self.is_right(field, one, other))
        self.assertGreater(words.count("alike"), 10)
        self.assertGreater(words.count("parted"), 10)

    def test_pruned_are_alike(self):
        told = random.Random(13)
        for _ in range(40):
            circuit = random_circuit(told, 3, 30, 8)
            self.assertEqual(alike_or_parted(5, circuit, pruned(circuit)), ("alike",))
            self.assertEqual(alike_or_parted(997, circuit, circuit), ("alike",))

    def test_least_inputs(self):
        builder = Builder(2)
        x2 = builder.put("product", 0, 0)
        less = builder.put("sum", x2, builder.put("times", 0, 4))
        square = builder.put("product", 1, 1)
        both = builder.put("product", less, builder.put("sum", square, builder.put("constant", 4)))
        zero = builder.put("constant", 0)
        one, other = builder.circuit(both), builder.circuit(zero)
        self.assertEqual(alike_or_parted(5, one, other), ("parted", 0, (2, 0)))
        self.assertEqual(self.is_right(5, one, other), "parted")
        shifted = builder.circuit(builder.put("product", less, 1))
        self.assertEqual(alike_or_parted(5, shifted, builder.circuit(zero)), ("parted", 0, (2, 1)))

    def test_last_number_alone(self):
        for field in (5, 7, 13):
            builder = Builder(1)
            found = 0
            for number in range(1, field - 1):
                found = builder.put("product", found, builder.put("sum", 0, builder.put("constant", field - number)))
            circuit, zero = builder.circuit(found), Builder(1)
            zero = zero.circuit(zero.put("constant", 0))
            self.assertEqual(alike_or_parted(field, circuit, zero), ("parted", 0, (field - 1,)))

    def test_first_output(self):
        gates = (("input", 1), ("constant", 1), ("sum", 0, 1))
        one = Circuit(gates, ((0, (1,)), (2, (2,)), (1, (3,))))
        other = Circuit(gates, ((0, (1,)), (0, (2,)), (0, (3,))))
        self.assertEqual(alike_or_parted(5, one, other), ("parted", 1, (0,)))
        self.assertEqual([is_parting(5, one, other, index, (0,)) for index in range(3)], [False, True, True])
        self.assertEqual([is_parting(5, one, other, index, (1,)) for index in range(3)], [False, True, False])

    def test_no_inputs(self):
        one, other = (Circuit((("constant", c),), ((0, (1,)),)) for c in (3, 8))
        self.assertEqual([alike_or_parted(5, one, other), alike_or_parted(7, one, other)],
                         [("alike",), ("parted", 0, ())])
        self.assertEqual([is_parting(7, one, other, 0, ()), is_parting(5, one, other, 0, ())], [True, False])
        self.is_false(is_parting(7, one, other, 0, (0,)))

    def test_other_gates_between(self):
        one = Circuit((("input", 1), ("constant", 3), ("input", 2), ("sum", 0, 2)), ((3, (1,)),))
        other = Circuit((("input", 1), ("input", 2), ("sum", 1, 0)), ((2, (1,)),))
        self.assertEqual(alike_or_parted(997, one, other), ("alike",))

    def test_difference_of_many_terms(self):
        builder, gate = two_thousand(False)
        other = Builder(8, [1] * 8)
        other = other.circuit(other.total([other.put("product", k, k) for k in range(4)]))
        for numbers in ((0,) * 8, (1,) * 8, (4, 3, 2, 1) * 2):
            parted = builder.circuit(gate).told(5, numbers) != other.told(5, numbers)
            self.assertIs(is_parting(5, builder.circuit(gate), other, 0, numbers), parted)
        self.assertEqual(alike_or_parted(5, builder.circuit(gate), other), ("parted", 0, (0,) * 8))

    def test_nothing_else(self):
        arguments = (5, C, OTHER, 0)
        self.accepts(is_parting, arguments, (0, 1))
        self.accepts(is_parting, arguments, (1, 2))
        self.judges(is_parting, arguments, ODD + ((0, 1, 0), (0,), (0, 5), (1, 0)))
        builder, gate = two_thousand(True)
        other = builder.circuit(0)
        self.is_true(is_parting(5, builder.circuit(gate), other, 0, (0,) * 8))


class PartedRefusalsTest(Case):

    def test_refused(self):
        unlike = [
            (7, C, Circuit(GATES, ((4, (1, 2)),))), (7, C, Circuit(GATES, OUTPUTS * 2)),
            (7, Circuit(GATES, OUTPUTS * 2), C),
            (7, C, Circuit((("input", 1), ("input", 2)) + GATES[2:], OUTPUTS)),
            (7, C, Circuit(GATES + (("input", 1),), OUTPUTS)), (7, C, Circuit((("constant", 1),), ((0, (1, 3)),))),
            (7, Circuit(GATES, ((4, (1,)), (3, (2,)))), Circuit(GATES, ((3, (2,)), (4, (1,)))))]
        builder, gate = two_thousand(True)
        great = builder.circuit(gate)
        small = builder.circuit(0)
        zero = builder.circuit(builder.put("times", gate, 0))
        then = [(InvalidOperation, None, arguments) for arguments in unlike]
        then += [(TooMany, 2000, (7, great, small)), (TooMany, 2000, (7, small, great)),
                 (TooMany, 2000, (7, small, zero)), (TooMany, 2000, (7, great, great))]
        then += [(InvalidOperation, None, (7, great, C)), (InvalidOperation, None, (7, C, great))]
        self.refuses(alike_or_parted, (7, C, OTHER), (FIELD, CIRCUIT, CIRCUIT), then)
        self.assertEqual(alike_or_parted(7, small, small), ("alike",))

    def test_gates_on_which_no_output_hangs(self):
        builder, gate = two_thousand(True)
        self.assertEqual(alike_or_parted(5, builder.circuit(0), builder.circuit(1)), ("parted", 0, (0, 1) + (0,) * 6))
        self.assertGreater(len(builder.gates), gate)

    def test_parting_refused(self):
        then = [(InvalidOperation, None, (7, C, other, 0)) for other in (
            Circuit(GATES, ((4, (1, 2)),)), Circuit((("input", 1), ("input", 2)) + GATES[2:], OUTPUTS))]
        wrong = (FIELD, CIRCUIT, CIRCUIT, (InvalidNumber, wrong_numbers(0, 0)))
        for paper in ((0, 1), None, (0, 1, 2), [0, 1]):
            self.refuses(lambda *four: is_parting(*four, paper), (7, C, OTHER, 0), wrong, then)

    def test_wrong_inputs_are_judged(self):
        for wrong in wrong_rows(5, 2):
            self.is_false(is_parting(5, C, OTHER, 0, wrong))

    def test_more_outputs(self):
        one, other = (Circuit(circuit.gates, circuit.outputs * 6) for circuit in (C, OTHER))
        for index, numbers in product(range(6), ((0, 1), (0, 0))):
            self.assertIs(is_parting(5, one, other, index, numbers), numbers == (0, 1))
        for index in (6, -1):
            self.raises(InvalidNumber, index, is_parting, 5, one, other, index, (0, 1))
