"""Stage 9: programs as circuits."""

import random

from evencoins.errors import InvalidCircuit, InvalidNumber, InvalidProgram, Refused, TooMany
from evencoins.plan.circuits import Circuit, alike_or_parted, pruned
from evencoins.plan.compiled import compiled, cost_of, is_compiled, merged, size_of
from evencoins.plan.programs import run_program, straight
from tests.helper import ODD, WRONG_FIELDS, Case, all_rows
from tests.test_circuits import random_circuit
from tests.test_programs import WRONG_PROGRAMS, fit_by, random_program

FIELD = (InvalidNumber, WRONG_FIELDS)
PROGRAM = (InvalidProgram, WRONG_PROGRAMS)
TAKE = ("take", "x", 1)
P = (TAKE, ("take", "y", 2), ("let", "d", ("minus", "x", "y")), ("tell", ("times", "d", "d"), (1, 2)),
     ("tell", ("power", "d", 5), (2,)))
UNFIT = (TAKE, ("tell", ("table", "x", ((1, 0), (6, 0))), (1,)))
PLAIN = ("plus", "minus", "times", "equal", "choose", "table", "power")


def one(part, *more):
    """A program with two takes that tells one expression."""
    return (TAKE, ("take", "y", 2)) + more + (("tell", part, (1,)),)


def halvings(many):
    """How many products a power takes: the digits to the base 2, and the ones among them, but for the first one."""
    return (len(bin(many)) - 3) + (bin(many).count("1") - 1) if many > 1 else 0


def cost_by(field, part):
    """The cost of an expression."""
    if isinstance(part, (int, str)):
        return 0
    word = part[0]
    if word == "power":
        return cost_by(field, part[1]) + halvings(part[2])
    if word == "table":
        return cost_by(field, part[1]) + max(0, len(part[2]) - 2)
    total = sum(cost_by(field, inner) for inner in part[1:])
    if word == "times":
        return total + (not isinstance(part[1], int) and not isinstance(part[2], int))
    if word == "choose":
        return total + (not isinstance(part[1], int))
    return total + (halvings(field - 1) if word == "equal" else 0)


def size_by(field, part):
    """The size of an expression."""
    if isinstance(part, int):
        return 1
    if isinstance(part, str):
        return 0
    word = part[0]
    if word == "power":
        return size_by(field, part[1]) + halvings(part[2]) + 1
    if word == "table":
        return size_by(field, part[1]) + 3 * len(part[2])
    own = {"plus": 1, "minus": 2, "times": 1, "equal": halvings(field - 1) + 5, "choose": 4}[word]
    return own + sum(size_by(field, inner) for inner in part[1:])


def done(program):
    """The expressions that are done, and how many takes there are."""
    parts, takes = [], 0
    for word, first, second in program:
        if word == "take":
            takes += 1
        elif word == "repeat":
            parts.extend([row[2] for row in second] * first)
        else:
            parts.append(second if word == "let" else first)
    return parts, takes


def bent(circuit):
    """Circuits that differ from this one in one gate, or in one output."""
    for index, gate in enumerate(circuit.gates):
        others = []
        if gate[0] == "constant":
            others = [("constant", (gate[1] + 1) % 5)]
        elif gate[0] == "times":
            others = [("times", gate[1], (gate[2] + 1) % 5), ("sum", gate[1], gate[1])]
        elif gate[0] in ("sum", "product"):
            others = [({"sum": "product", "product": "sum"}[gate[0]],) + gate[1:], (gate[0], gate[1], gate[1]),
                      (gate[0], gate[2], gate[2]), (gate[0], gate[1], 0), ("constant", 1), ("times", gate[1], 2)]
        else:
            others = [("input", gate[1] % 9 + 1), ("constant", 1)]
        for other in others:
            gates = circuit.gates[:index] + (other,) + circuit.gates[index + 1:]
            if sum(row[0] == "product" for row in gates) <= 12:
                yield Circuit(gates, circuit.outputs)
    for index, (gate, houses) in enumerate(circuit.outputs):
        for other in ((0, houses), (len(circuit.gates) - 1, houses), (gate, (9,)), (gate, houses[:1] + (8, 9)[:1])):
            if other[1] == tuple(sorted(set(other[1]))):
                yield Circuit(circuit.gates, circuit.outputs[:index] + (other,) + circuit.outputs[index + 1:])
    yield Circuit(circuit.gates, (circuit.outputs * 2)[:6])
    yield Circuit(circuit.gates, circuit.outputs[::-1])


def merged_by(circuit):
    """The circuit with equal gates once, written down without the program."""
    rows, names = [], {}
    for index, gate in enumerate(circuit.gates):
        if gate[0] in ("sum", "product"):
            gate = gate[:1] + tuple(sorted(names[k] for k in gate[1:]))
        elif gate[0] == "times":
            gate = (gate[0], names[gate[1]], gate[2])
        if gate[0] == "input" or gate not in rows:
            rows.append(gate)
            names[index] = len(rows) - 1
        else:
            names[index] = rows.index(gate)
    return pruned(Circuit(tuple(rows), tuple((names[gate], houses) for gate, houses in circuit.outputs)))


class ExamplesTest(Case):

    def test_examples(self):
        self.assertEqual([cost_of(7, P), size_of(7, P), compiled(7, P).told(7, (2, 5)), compiled(7, P).houses],
                         [4, 10, (2, 2), (1, 2)])
        self.is_true(is_compiled(5, P, Circuit((
            ("input", 1), ("input", 2), ("times", 1, 4), ("sum", 0, 2), ("product", 3, 3)),
            ((4, (1, 2)), (3, (2,))))))
        self.assertEqual(merged(Circuit((
            ("input", 1), ("constant", 3), ("sum", 1, 0), ("sum", 0, 1), ("product", 2, 3)), ((4, (1,)),))).gates,
            (("input", 1), ("constant", 3), ("sum", 0, 1), ("product", 2, 2)))


class CostsTest(Case):

    def test_words(self):
        for part, cost, size in (
                (3, 0, 1), ("x", 0, 0), (("plus", "x", "y"), 0, 1), (("minus", "x", "y"), 0, 2),
                (("times", "x", "y"), 1, 1), (("times", 2, "y"), 0, 2), (("times", "x", 2), 0, 2),
                (("times", 2, 2), 0, 3), (("times", ("plus", 1, 1), "x"), 1, 4), (("power", "x", 0), 0, 1),
                (("power", "x", 1), 0, 1), (("power", "x", 2), 1, 2), (("power", "x", 3), 2, 3),
                (("power", "x", 4), 2, 3), (("power", "x", 5), 3, 4), (("power", "x", 60), 8, 9),
                (("equal", "x", "y"), 3, 8), (("choose", "x", "y", 1), 1, 5), (("choose", 1, "x", "y"), 0, 5),
                (("choose", "x", 1, 2), 1, 6), (("table", "x", ((0, 1),)), 0, 3),
                (("table", "x", ((0, 1), (1, 2))), 0, 6), (("table", "x", ((0, 1), (1, 2), (3, 2))), 1, 9),
                (("table", ("times", "x", "x"), tuple((k, 1) for k in range(12))), 11, 37),
                (("plus", ("times", "x", "x"), ("power", ("times", "x", "y"), 2)), 3, 5)):
            self.same(cost, cost_of, 7, one(part))
            self.same(size + 3, size_of, 7, one(part))

    def test_fields(self):
        for field, many in ((5, 2), (7, 3), (11, 4), (13, 4), (17, 4), (31, 7), (257, 8), (997, 14)):
            self.assertEqual(cost_of(field, one(("equal", "x", 1))), many)
            self.assertEqual(size_of(field, one(("equal", "x", 1))), many + 9)

    def test_what_is_done_counts(self):
        row = (("let", "z", ("times", "x", "y")), ("let", "x", ("power", "z", 3)))
        for many in range(13):
            program = one("x", ("repeat", many, row))
            self.assertEqual([cost_of(7, program), size_of(7, program)], [3 * many, 4 * many + 3])
        self.assertEqual(size_of(7, (("tell", 1, (1,)),)), 2)
        self.assertEqual(cost_of(5, UNFIT), 0)
        self.assertEqual(size_of(5, UNFIT), 8)
        self.assertEqual(cost_of(7, (TAKE, ("repeat", 12, (("let", "x", ("power", "x", 60)),) * 8),
                                     ("tell", "x", (1,)))), 768)

    def test_many(self):
        told = random.Random(4)
        for index in range(150):
            program = random_program(told, index % 4, 6)
            parts, takes = done(program)
            for field in (5, 7, 997):
                self.assertEqual(cost_of(field, program), sum(cost_by(field, part) for part in parts))
                self.assertEqual(size_of(field, program), sum(size_by(field, part) for part in parts) + takes + 1)


class CompiledTest(Case):

    def is_made(self, field, program, circuit):
        """The circuit is made from the program: for all numbers."""
        takes = [row for row in program if row[0] == "take"]
        self.assertEqual(circuit.houses, tuple(row[2] for row in takes))
        self.assertEqual([houses for _, houses in circuit.outputs], [row[2] for row in program if row[0] == "tell"])
        for numbers in all_rows(field, len(takes)):
            self.assertEqual(circuit.told(field, numbers), run_program(field, program, numbers), program)

    def is_small(self, field, program, circuit):
        """The circuit has no more gates and products than told, and numbers of the field alone."""
        words = [gate[0] for gate in circuit.gates]
        self.assertLessEqual(words.count("product"), cost_of(field, program), program)
        self.assertLessEqual(len(words), size_of(field, program), program)
        self.assertLess(max([0] + [gate[-1] for gate in circuit.gates if gate[0] in ("constant", "times")]), field)

    def test_words(self):
        for part in (
                3, 996, "x", ("plus", "x", "y"), ("minus", "x", "y"), ("times", "x", "y"), ("times", 996, "y"),
                ("times", "x", 8), ("times", 5, 7), ("times", 3, 4), ("equal", "x", "y"), ("equal", "x", 7),
                ("equal", 3, 8), ("choose", "x", "y", 3), ("choose", 1, "x", "y"), ("choose", 0, "x", "y"),
                ("choose", 8, "x", "y"), ("choose", ("equal", "x", 1), "y", "x"), ("table", "x", ((6, 9),)),
                ("table", "x", ((0, 1), (1, 2))), ("table", "x", ((0, 3), (1, 3))), ("table", 2, ((0, 3), (1, 4))),
                ("table", "y", ((0, 1), (2, 2), (996, 4))), ("table", "x", tuple((k, k * k * k) for k in range(5))),
                ("table", ("plus", "x", "y"), tuple((k, 7 * k % 5) for k in range(4)))) + tuple(
                    ("power", "x", k) for k in (0, 1, 2, 3, 4, 5, 6, 7, 8, 15, 16, 31, 60)):
            for field in (5, 7):
                program = one(part)
                if fit_by(field, program):
                    circuit = compiled(field, program)
                    self.is_made(field, program, circuit)
                    self.is_small(field, program, circuit)

    def test_statements(self):
        twice = (("let", "x", ("times", "x", "y")), ("let", "y", ("plus", "x", 1)))
        zero = (("let", "z", "x"), ("let", "w", "z"), ("let", "x", 2))
        for program in (
                one("x", ("repeat", 3, twice)), one("x", ("repeat", 0, twice)), one("z", ("repeat", 0, zero)),
                one(("plus", "z", "w"), ("repeat", 0, zero)), (TAKE, ("tell", "x", (1,)), ("take", "x", 3), (
                    "tell", ("times", "x", "x"), (2, 9))), (("repeat", 0, (("let", "z", 1),)), ("tell", "z", (4,))),
                (("tell", 7, (1,)),), (TAKE, ("let", "x", ("times", "x", "x")), ("tell", 1, (1,)))):
            for field in (5, 7):
                circuit = compiled(field, program)
                self.is_made(field, program, circuit)
                self.is_small(field, program, circuit)
        both = (TAKE, ("repeat", 0, zero), ("tell", "z", (4,)), ("tell", "w", (4,)))
        self.is_made(5, both, compiled(5, both))
        self.assertLessEqual(len(compiled(5, both).gates), 2)

    def test_many(self):
        told = random.Random(5)
        kinds = {Refused: 0, TooMany: 0, None: 0}
        for index in range(400):
            program = random_program(told, index % 4, 4, depth=3)
            for field in (5, 7) if index % 4 < 3 else (5,):
                if not fit_by(field, program):
                    kinds[Refused] += 1
                    self.raises(Refused, ("places",), compiled, field, program)
                elif cost_of(field, program) > 12:
                    kinds[TooMany] += 1
                    self.raises(TooMany, 12, compiled, field, program)
                elif size_of(field, program) > 60:
                    kinds[TooMany] += 1
                    self.raises(TooMany, 60, compiled, field, program)
                else:
                    kinds[None] += 1
                    circuit = compiled(field, program)
                    self.is_small(field, program, circuit)
                    self.is_made(field, program, circuit)
        self.assertGreater(min(kinds.values()), 30)

    def test_twelve_products(self):
        for many, field in ((12, 7), (13, 7)):
            program = one("x", ("repeat", many, (("let", "x", ("times", "x", "y")),))) if many < 13 else one(
                ("times", "x", "y"), ("repeat", 12, (("let", "x", ("times", "x", "y")),)))
            self.assertEqual(cost_of(field, program), many)
            if many == 12:
                self.assertEqual([gate[0] for gate in compiled(field, program).gates].count("product"), 12)
                self.is_true(is_compiled(field, program, compiled(field, program)))
            else:
                self.raises(TooMany, 12, compiled, field, program)
                self.raises(TooMany, 12, is_compiled, field, program, None)
        self.raises(TooMany, 12, compiled, 997, one(("equal", "x", "y")))
        self.assertEqual(compiled(257, one(("equal", "x", "y"))).told(257, (3, 3)), (1,))

    def test_size_of_sixty(self):
        def rows(many):
            return one("x", ("repeat", 12, (("let", "x", ("plus", "x", 1)), ("let", "x", ("plus", 2, "x")))),
                       *(("let", "x", ("plus", "x", "y")),) * many)
        for many in range(10):
            program = rows(many)
            self.assertEqual(size_of(7, program), 51 + many)
            self.assertEqual(compiled(7, program).told(7, (1, 2)), run_program(7, program, (1, 2)))
            self.is_true(is_compiled(7, program, compiled(7, program)))
        self.raises(TooMany, 60, compiled, 7, rows(10))
        self.raises(TooMany, 60, is_compiled, 7, rows(10), None)
        both = one(("times", "x", "y"), ("repeat", 12, (("let", "x", ("times", "x", ("plus", ("plus", 1, 1), "y"))),)))
        self.assertEqual([cost_of(7, both), size_of(7, both)], [13, 64])
        self.raises(TooMany, 12, compiled, 7, both)

    def test_straight(self):
        told = random.Random(6)
        many = 0
        for _ in range(120):
            program = random_program(told, 2, 3, depth=2)
            if fit_by(5, program) and cost_of(5, program) <= 12 and size_of(5, program) <= 60:
                other = straight(program)
                if size_of(5, other) <= 60:
                    many += 1
                    self.is_true(is_compiled(5, program, compiled(5, other)))
                    self.is_true(is_compiled(5, other, compiled(5, program)))
        self.assertGreater(many, 40)


class IsCompiledTest(Case):

    def test_made_otherwise(self):
        square = one(("times", ("plus", "x", "y"), ("minus", "x", "y")))
        for gates in (
                (("input", 1), ("input", 2), ("product", 0, 0), ("product", 1, 1), ("times", 3, 4), ("sum", 2, 4)),
                (("input", 1), ("constant", 9), ("input", 2), ("product", 0, 0), ("product", 2, 2), ("product", 4, 1),
                 ("sum", 3, 5), ("product", 6, 6)),
                (("input", 1), ("input", 2), ("sum", 1, 0), ("times", 1, 4), ("sum", 0, 3), ("product", 4, 2))):
            index = 6 if len(gates) == 8 else 5
            self.is_true(is_compiled(5, square, Circuit(gates, ((index, (1,)),))))
            self.is_false(is_compiled(5, square, Circuit(gates, ((index - 1, (1,)),))))
            self.is_false(is_compiled(5, square, Circuit(gates, ((index, (1, 2)),))))
            self.is_false(is_compiled(5, square, Circuit(gates, ((index, (1,)), (index, (1,))))))
            self.is_false(is_compiled(5, square, Circuit((("input", 2),) + gates[1:], ((index, (1,)),))))
            self.is_false(is_compiled(7, square, Circuit(gates, ((index, (1,)),))))

    def test_for_all_numbers(self):
        equal = (TAKE, ("tell", ("equal", "x", 2), (1,)))
        chain = (("input", 1), ("constant", 3), ("sum", 0, 1), ("product", 2, 2), ("product", 3, 3), ("times", 4, 4),
                 ("constant", 1), ("sum", 6, 5))
        self.is_true(is_compiled(5, equal, Circuit(chain, ((7, (1,)),))))
        self.is_false(is_compiled(7, equal, Circuit(chain, ((7, (1,)),))))
        self.is_false(is_compiled(5, equal, Circuit(chain[:1] + (("constant", 2),) + chain[2:], ((7, (1,)),))))
        power = (TAKE, ("tell", ("power", "x", 5), (1,)))
        self.is_true(is_compiled(5, power, Circuit((("input", 1),), ((0, (1,)),))))
        self.is_false(is_compiled(7, power, Circuit((("input", 1),), ((0, (1,)),))))
        self.is_true(is_compiled(5, (TAKE, ("tell", ("plus", "x", 3), (1,))), Circuit(
            (("input", 1), ("constant", 993), ("sum", 1, 0)), ((2, (1,)),))))

    def test_bent_by_one_gate(self):
        told = random.Random(9)
        found = {True: 0, False: 0}
        for index in range(40):
            program = random_program(told, 2, 3, depth=2, words=PLAIN)
            if not fit_by(5, program) or cost_of(5, program) > 11 or size_of(5, program) > 45:
                continue
            circuit = compiled(5, program)
            self.is_true(is_compiled(5, program, circuit))
            self.is_true(is_compiled(5, program, merged(circuit)))
            right = [run_program(5, program, numbers) for numbers in all_rows(5, 2)]
            houses = [[row[2] for row in program if row[0] == word] for word in ("take", "tell")]
            for other in bent(circuit):
                same = [list(other.houses), [goals for _, goals in other.outputs]] == houses and [
                    other.told(5, numbers) for numbers in all_rows(5, 2)] == right
                self.assertIs(is_compiled(5, program, other), same, (program, other.gates, other.outputs))
                found[same] += 1
        self.assertGreater(min(found.values()), 50)

    def test_values(self):
        circuit = compiled(7, P)
        self.judges(is_compiled, (7, P), ODD + ((circuit.gates, circuit.outputs), (circuit,), [circuit]))

    def test_too_many_terms(self):
        takes = tuple(("take", name, 1) for name in "abcdefgh")
        total = "a"
        rows = takes
        for name in "bcdefgh":
            rows += (("let", "s", ("plus", total, name)),)
            total = "s"
        small = rows + (("tell", "s", (1,)),)
        large = rows + (("tell", ("power", "s", 16), (1,)),)
        self.raises(TooMany, 2000, is_compiled, 997, large, compiled(997, large))
        self.raises(TooMany, 2000, is_compiled, 997, small, compiled(997, large))
        self.is_true(is_compiled(997, small, compiled(997, small)))
        self.is_false(is_compiled(997, small, None))
        power = rows + (("tell", ("power", "s", 4), (1,)),)
        self.is_true(is_compiled(997, power, merged(compiled(997, power))))


class MergedTest(Case):

    def test_sequence(self):
        gates = (("constant", 2), ("input", 3), ("constant", 2), ("input", 3), ("sum", 3, 1), ("sum", 1, 3),
                 ("product", 5, 2), ("product", 0, 4), ("times", 7, 5), ("times", 6, 5), ("times", 6, 4),
                 ("sum", 9, 8), ("sum", 10, 9), ("constant", 0))
        found = merged(Circuit(gates, ((11, (1,)), (12, (2,)), (5, (1, 2)))))
        self.assertEqual(found.gates, (
            ("constant", 2), ("input", 3), ("input", 3), ("sum", 1, 2), ("product", 0, 3), ("times", 4, 5),
            ("times", 4, 4), ("sum", 5, 5), ("sum", 5, 6)))
        self.assertEqual(found.outputs, ((7, (1,)), (8, (2,)), (3, (1, 2))))
        self.assertEqual(merged(Circuit(gates, ((6, (1,)),))).gates, (
            ("constant", 2), ("input", 3), ("input", 3), ("sum", 1, 2), ("product", 0, 3)))

    def test_unlike_gates_stay(self):
        gates = (("input", 1), ("input", 1), ("times", 0, 1), ("times", 0, 8), ("constant", 1), ("constant", 8),
                 ("sum", 0, 0), ("times", 0, 2), ("product", 0, 1), ("sum", 0, 1))
        outputs = tuple((k, (1,)) for k in (2, 3, 6, 7, 8, 9))
        circuit = Circuit(gates, outputs)
        self.assertEqual(merged(circuit), pruned(circuit))
        self.assertEqual(merged(Circuit(gates, ((4, (1,)), (5, (1,))))).gates, gates[:2] + gates[4:6])

    def test_many(self):
        told = random.Random(12)
        shorter = 0
        for index in range(150):
            circuit = random_circuit(told, told.randrange(1, 4), 40, 12, outputs=told.randrange(1, 5))
            gates = tuple(("constant", told.randrange(2)) if gate[0] == "constant" else (
                gate[:2] + (told.randrange(2),) if gate[0] == "times" else gate) for gate in circuit.gates)
            circuit = Circuit(gates, circuit.outputs)
            found = merged(circuit)
            self.assertEqual(found, merged_by(circuit))
            self.assertEqual(found.gates, merged_by(circuit).gates)
            self.assertEqual(merged(found), found)
            self.assertEqual(found.houses, circuit.houses)
            shorter += len(found.gates) < len(pruned(circuit).gates)
            for field in (5, 997):
                for _ in range(5):
                    numbers = tuple(told.randrange(field) for _ in circuit.inputs)
                    self.assertEqual(found.told(field, numbers), circuit.told(field, numbers))
            if index % 5 == 0:
                try:
                    self.assertEqual(alike_or_parted(5, circuit, found), ("alike",))
                except TooMany:
                    pass
        self.assertGreater(shorter, 30)

    def test_no_smaller_by_forms(self):
        circuit = Circuit((("input", 1), ("sum", 0, 0), ("times", 0, 2)), ((1, (1,)), (2, (1,))))
        self.assertEqual(merged(circuit), circuit)


class RefusalsTest(Case):

    def test_programs(self):
        for function in (cost_of, size_of):
            self.refuses(function, (7, P), (FIELD, PROGRAM))
        many = one("x", ("repeat", 12, (("let", "x", ("times", "x", "y")),)), ("let", "x", ("times", "x", "y")))
        long = one("x", *(("let", "x", ("equal", 1, 1)),) * 4, *(("let", "x", 3),) * 24)
        self.assertEqual([cost_of(7, long), size_of(7, long)], [12, 67])
        then = [(Refused, ("places",), (5, UNFIT)), (TooMany, 12, (7, many)), (TooMany, 60, (7, long))]
        self.refuses(compiled, (7, P), (FIELD, PROGRAM), then)
        for value in (None, compiled(7, P), (), 1):
            self.refuses(is_compiled, (7, P, value), (FIELD, PROGRAM, (None, ())), [
                (error, kept, arguments + (value,)) for error, kept, arguments in then])

    def test_sequence_of_then(self):
        costly = (TAKE, ("repeat", 12, (("let", "x", ("power", "x", 60)),)), UNFIT[1])
        self.raises(Refused, ("places",), compiled, 5, costly)
        self.raises(Refused, ("places",), is_compiled, 5, costly, None)
        self.raises(TooMany, 12, compiled, 7, costly)
        self.raises(TooMany, 12, is_compiled, 7, costly, None)

    def test_circuits(self):
        circuit = compiled(7, P)
        self.refuses(merged, (circuit,), [(InvalidCircuit, [odd for odd in ODD if not isinstance(odd, Circuit)] + [
            (circuit.gates, circuit.outputs)])])
