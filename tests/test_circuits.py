"""Stage 7: circuits and their meaning."""

import random

from evencoins.errors import InvalidCircuit, InvalidInputs, InvalidNumber
from evencoins.plan.circuits import Circuit, pruned
from tests.helper import LONG, ODD, WRONG_FIELDS, Case, wrong_numbers, wrong_rows

FIELD = (InvalidNumber, WRONG_FIELDS)
GATES = (("input", 2), ("input", 1), ("sum", 0, 1), ("product", 2, 1), ("times", 3, 6))
OUTPUTS = ((4, (1, 3)),)
C = Circuit(GATES, OUTPUTS)
ONE = ((0, (1,)),)
WRONG_GATES = (
    (), [("input", 1)], (["input", 1],), None, True, 1, "input", {}, {0: ("input", 1)}, (None,), (1,), ("input",),
    ((),), (("input",),), (("input", 1, 1),), (("input", 0),), (("input", 10),), (("input", -1),), (("input", True),),
    (("input", None),), (("input", "1"),), (("input", (1,)),), (("input", LONG),), (("Input", 1),), (("", 1),),
    ((None, 1),), ((1, 1),), ((["input"], 1),), (({}, 1),), ((C, 1),), (("inputs", 1),), (("product", 1),),
    (("constant", 997),), (("constant", -1),), (("constant", False),), (("constant", None),), (("constant",),),
    (("constant", 1, 2),), (("constant", "1"),), (("constant", LONG),), (("sum", 0, 0),), (("product", 0, 0),),
    (("times", 0, 1),), (("sum", -1, -1),), C,
)
INPUT = ("input", 1)
WRONG_SECOND = (
    ("sum", 0, 1), ("sum", 1, 0), ("sum", 0), ("sum", 0, 0, 0), ("sum", -1, 0), ("sum", 0, -1), ("sum", 0, True),
    ("sum", False, 0), ("sum", None, 0), ("sum", 0, None), ("sum", (0,), 0), ("sum", 0, "0"), ("sum", 2, 0),
    ("product", 0, 1), ("product", 1, 0), ("product", 0), ("product", 0, 0, 0), ("product", -1, 0), ("product", 0, -1),
    ("product", 0, False), ("product", False, 0), ("product", 0, 2), ("times", 1, 0), ("times", 0), ("times", 0, 997),
    ("times", 0, -1), ("times", 0, True), ("times", True, 0), ("times", False, 0), ("times", 0, 1, 1), ("times", -1, 1),
    ("times", 0, None), ("times", 0, LONG), ("minus", 0, 0), ("power", 0, 2), (None, 0, 0), ((), 0, 0), ([], 0, 0),
    ["sum", 0, 0], "sum", ("sum",), ("times", 0, [1]),
)
WRONG_OUTPUTS = (
    (), [(0, (1,))], ([0, (1,)],), ((0, [1]),), None, True, 1, "0", {}, {0: (1,)}, ((0,),), ((0, (1,), 1),), ((0, ()),),
    ((1, (1,)),), ((-1, (1,)),), ((False, (1,)),), ((None, (1,)),), (("0", (1,)),), (((0,), (1,)),), ((0, 1),),
    ((0, (0,)),), ((0, (10,)),), ((0, (True,)),), ((0, (None,)),), ((0, (2, 1)),), ((0, (1, 1)),), ((0, (1, 2, 2)),),
    ((0, None),), (0, (1,)), (None,), ((0, (1,)), (1, (1,))), ((0, (1,)), None), ((0, "1"),), ((LONG, (1,)),),
    ((0, {1: 2}),), ((0, (1, 10)),), ((0, (0, 1)),), ((0, (1,)),) * 7, C,
)


def chain(many, *first):
    """So many gates, the ones behind the first ones each summing up the gate ahead."""
    return tuple(first) + tuple(("sum", k - 1, 0) for k in range(len(first), many))


def numbers_of(field, gates, inputs):
    """The numbers of all gates."""
    numbers, left = [], list(inputs)
    for gate in gates:
        if gate[0] == "input":
            numbers.append(left.pop(0))
        elif gate[0] == "constant":
            numbers.append(gate[1] % field)
        elif gate[0] == "times":
            numbers.append(numbers[gate[1]] * gate[2] % field)
        else:
            one, other = numbers[gate[1]], numbers[gate[2]]
            numbers.append((one + other if gate[0] == "sum" else one * other) % field)
    return tuple(numbers)


def random_circuit(told, inputs, gates, products, outputs=2):
    """A circuit of told sizes; its inputs stand among the others."""
    found, left = [("input", told.randrange(1, 10))], products
    places = set(told.sample(range(1, gates), inputs - 1))
    for index in range(1, gates):
        one, other = told.randrange(index), told.randrange(index)
        word = told.choice(("sum", "sum", "times", "product", "constant"))
        if index in places:
            found.append(("input", told.randrange(1, 10)))
        elif word == "constant":
            found.append((word, told.randrange(997)))
        elif word == "times":
            found.append((word, one, told.randrange(997)))
        elif word == "product" and left:
            left -= 1
            found.append((word, one, other))
        else:
            found.append(("sum", one, other))
    goals = tuple((told.randrange(gates), tuple(sorted(told.sample(range(1, 10), 2)))) for _ in range(outputs))
    return Circuit(tuple(found), goals)


class ExamplesTest(Case):

    def test_examples(self):
        self.assertEqual(
            [C.inputs, C.houses, C.levels, C.meaning(5, (3, 4)), C.told(7, (3, 4))],
            [(0, 1), (2, 1), ((3,),), (3, 4, 2, 3, 3), (0,)])


class CircuitTest(Case):

    def test_parts(self):
        self.assertEqual([C.gates, C.outputs, str(C)], [GATES, OUTPUTS, "circuit of 5 gates, 1 products"])
        self.assertEqual([C.inputs_of(house) for house in range(1, 10)], [(1,), (0,)] + [()] * 7)
        other = Circuit((("input", 9), ("constant", 996), ("input", 3), ("input", 9)), ((1, (2,)),))
        self.assertEqual([other.inputs, other.houses, other.levels], [(0, 2, 3), (9, 3, 9), ()])
        self.assertEqual([other.inputs_of(9), other.inputs_of(3), other.inputs_of(1)], [(0, 3), (2,), ()])
        self.assertEqual(str(other), "circuit of 4 gates, 0 products")
        self.assertEqual(str(Circuit(chain(60, INPUT), ONE)), "circuit of 60 gates, 0 products")

    def test_levels(self):
        gates = (INPUT, ("product", 0, 0), ("constant", 2), ("product", 2, 2), ("sum", 1, 2), ("times", 4, 3),
                 ("product", 5, 0), ("sum", 0, 6), ("product", 1, 3), ("product", 0, 7), ("product", 7, 9))
        self.assertEqual(Circuit(gates, ONE).levels, ((1, 3), (6, 8), (9,), (10,)))
        self.assertEqual(Circuit((INPUT,), ONE).levels, ())
        told = random.Random(7)
        for _ in range(60):
            circuit = random_circuit(told, 2, 25, 10)
            depths = []
            for gate in circuit.gates:
                ahead = {"sum": gate[1:], "product": gate[1:], "times": gate[1:2]}.get(gate[0], ())
                depth = max([depths[k] for k in ahead], default=0)
                depths.append(depth + (gate[0] == "product"))
            found = {}
            for index, gate in enumerate(circuit.gates):
                if gate[0] == "product":
                    found.setdefault(depths[index], []).append(index)
            self.assertEqual(circuit.levels, tuple(tuple(found[level]) for level in sorted(found)))

    def test_meaning(self):
        told = random.Random(8)
        for index in range(80):
            circuit = random_circuit(told, told.randrange(1, 9), 30, 12)
            for field in (5, 7, 997):
                numbers = tuple(told.randrange(field) for _ in circuit.inputs)
                right = numbers_of(field, circuit.gates, numbers)
                self.assertEqual(circuit.meaning(field, numbers), right)
                self.assertEqual(circuit.told(field, numbers), tuple(right[gate] for gate, _ in circuit.outputs))

    def test_constants_and_factors(self):
        circuit = Circuit((("constant", 996), ("constant", 7), ("times", 1, 996), ("times", 0, 0)),
                          ((0, (1,)), (2, (9,)), (3, (1, 9)), (0, (1,))))
        self.assertEqual(circuit.meaning(7, ()), (2, 0, 0, 0))
        self.assertEqual(circuit.meaning(997, ()), (996, 7, 990, 0))
        self.assertEqual([circuit.told(5, ()), circuit.told(997, ())], [(1, 2, 0, 1), (996, 990, 0, 996)])

    def test_bounds(self):
        self.assertEqual(len(Circuit(chain(60, INPUT), ((59, (1,)),)).gates), 60)
        self.raises(InvalidCircuit, None, Circuit, chain(61, INPUT), ONE)
        inputs = tuple(("input", k) for k in (1, 9, 2, 2, 3, 4, 5, 6, 7))
        self.assertEqual(Circuit(inputs[:8], ONE).houses, (1, 9, 2, 2, 3, 4, 5, 6))
        self.raises(InvalidCircuit, None, Circuit, inputs, ONE)
        products = (INPUT,) + tuple(("product", k, 0) for k in range(13))
        self.assertEqual(len(Circuit(products[:13], ONE).levels), 12)
        self.raises(InvalidCircuit, None, Circuit, products, ONE)
        outputs = tuple((0, (k,)) for k in range(1, 8))
        self.assertEqual(Circuit((INPUT,), outputs[:6]).outputs, outputs[:6])
        self.raises(InvalidCircuit, None, Circuit, (INPUT,), outputs)
        self.assertEqual(Circuit((INPUT,), ((0, tuple(range(1, 10))),)).told(5, (3,)), (3,))
        self.assertEqual(Circuit((INPUT,), ONE * 6).told(5, (3,)), (3,) * 6)
        self.assertEqual(Circuit((("input", 9), ("constant", 0)), ONE).houses, (9,))

    def test_no_circuits(self):
        for gates in WRONG_GATES:
            self.raises(InvalidCircuit, None, Circuit, gates, ONE)
        for gate in WRONG_SECOND:
            self.raises(InvalidCircuit, None, Circuit, (INPUT, gate), ONE)
            self.raises(InvalidCircuit, None, Circuit, (INPUT, gate, INPUT), ONE)
        for outputs in WRONG_OUTPUTS:
            self.raises(InvalidCircuit, None, Circuit, (INPUT,), outputs)
        for odd in ODD:
            self.raises(InvalidCircuit, None, Circuit, odd, ONE)
            self.raises(InvalidCircuit, None, Circuit, (odd,), ONE)
            self.raises(InvalidCircuit, None, Circuit, (INPUT, odd), ONE)
            self.raises(InvalidCircuit, None, Circuit, (INPUT,), odd)
            self.raises(InvalidCircuit, None, Circuit, (INPUT,), (odd,))
            self.raises(InvalidCircuit, None, Circuit, (INPUT,), ((0, odd),) if odd != (1,) * 70 else None)

    def test_houses(self):
        self.refuses(C.inputs_of, (9,), [(InvalidNumber, wrong_numbers(1, 9))])
        self.assertEqual(C.inputs_of(1), (1,))

    def test_inputs(self):
        numbers = (InvalidInputs, wrong_rows(7, 2) + ((), (1,), (1, 2, 3), (1, 2, 3, 4)))
        for function in (C.meaning, C.told):
            self.refuses(function, (7, (6, 0)), (FIELD, numbers))
        self.assertEqual(Circuit((("constant", 1),), ONE).meaning(5, ()), (1,))
        self.raises(InvalidInputs, None, Circuit((("constant", 1),), ONE).told, 5, (0,))


class ObjectsTest(Case):

    def test_equal(self):
        self.assertTrue(C == Circuit(GATES, OUTPUTS))
        self.assertFalse(C != Circuit(GATES, OUTPUTS))
        for other in (Circuit(GATES, OUTPUTS * 2), Circuit(GATES, ((4, (1, 2)),)), Circuit(GATES, ((3, (1, 3)),)),
                      Circuit(GATES[:4] + (("times", 3, 5),), OUTPUTS), Circuit(GATES + (("constant", 0),), OUTPUTS),
                      Circuit((("input", 3),) + GATES[1:], OUTPUTS),
                      Circuit(GATES[:1] + GATES[:1] + GATES[2:], OUTPUTS)):
            self.is_false(C == other)
            self.is_true(C != other)
            self.is_false(other == C)

    def test_equal_to_no_other_value(self):
        for odd in ODD + ((GATES, OUTPUTS), GATES, OUTPUTS, str(C)):
            if odd is not C:
                self.is_false(C == odd)
                self.is_true(C != odd)
                self.is_false(odd == C)
        self.assertNotIn(C, ODD)
        self.assertIn(Circuit(GATES, OUTPUTS), [None, C])

    def test_not_iterated(self):
        with self.assertRaises(TypeError):
            iter(C)
        with self.assertRaises(TypeError):
            list(C)
        with self.assertRaises(TypeError):
            for _ in C:
                pass

    def test_never_changes(self):
        before = (C.gates, C.outputs, C.inputs, C.houses, C.levels)
        C.meaning(5, (1, 2))
        C.told(7, (1, 2))
        C.inputs_of(3)
        pruned(C)
        self.assertEqual((C.gates, C.outputs, C.inputs, C.houses, C.levels), before)
        self.assertEqual(before, (GATES, OUTPUTS, (0, 1), (2, 1), ((3,),)))


class PrunedTest(Case):

    def test_pruned(self):
        gates = (("constant", 3), ("input", 2), ("sum", 0, 1), ("input", 4), ("product", 1, 3), ("times", 2, 5),
                 ("constant", 0), ("times", 4, 4), ("sum", 7, 3), ("product", 8, 8))
        self.assertEqual(pruned(Circuit(gates, ((8, (1,)), (4, (2, 3))))), Circuit(
            (("input", 2), ("input", 4), ("product", 0, 1), ("times", 2, 4), ("sum", 3, 1)),
            ((4, (1,)), (2, (2, 3)))))
        self.assertEqual(pruned(Circuit(gates, ((6, (1,)),))), Circuit(
            (("input", 2), ("input", 4), ("constant", 0)), ((2, (1,)),)))
        self.assertEqual(pruned(Circuit(gates, ((5, (1,)),))), Circuit(
            (("constant", 3), ("input", 2), ("sum", 0, 1), ("input", 4), ("times", 2, 5)), ((4, (1,)),)))
        self.assertEqual(pruned(C), C)

    def test_hanging_by_a_factor_of_zero(self):
        gates = (("constant", 3), INPUT, ("times", 0, 0), ("product", 2, 1), ("constant", 3))
        self.assertEqual(pruned(Circuit(gates, ((3, (1,)),))), Circuit(gates[:4], ((3, (1,)),)))

    def test_many(self):
        told = random.Random(11)
        for _ in range(80):
            circuit = random_circuit(told, told.randrange(1, 5), 30, 12, outputs=told.randrange(1, 4))
            kept = set(gate for gate, _ in circuit.outputs)
            for index in range(29, -1, -1):
                gate = circuit.gates[index]
                if index in kept:
                    kept.update({"sum": gate[1:], "product": gate[1:], "times": gate[1:2]}.get(gate[0], ()))
            kept = sorted(kept.union(circuit.inputs))
            found = pruned(circuit)
            self.assertEqual([gate[0] for gate in found.gates], [circuit.gates[k][0] for k in kept])
            self.assertEqual([houses for _, houses in found.outputs], [houses for _, houses in circuit.outputs])
            self.assertEqual([kept[gate] for gate, _ in found.outputs], [gate for gate, _ in circuit.outputs])
            self.assertEqual(found.houses, circuit.houses)
            for field in (5, 997):
                numbers = tuple(told.randrange(field) for _ in circuit.inputs)
                meaning = circuit.meaning(field, numbers)
                self.assertEqual(found.meaning(field, numbers), tuple(meaning[k] for k in kept))
            self.assertEqual(pruned(found), found)

    def test_refused(self):
        self.refuses(pruned, (C,), [(InvalidCircuit, [odd for odd in ODD if not isinstance(odd, Circuit)])])
        self.raises(InvalidCircuit, None, pruned, (GATES, OUTPUTS))
