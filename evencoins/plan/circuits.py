"""Circuits of sums, products and constants; their forms, in one letter for each input."""

from evencoins.base.field import MAX_FIELD, are_numbers, check_field, check_integer, is_ascending, is_integer
from evencoins.base.field import rows_count
from evencoins.errors import InvalidCircuit, InvalidInputs, InvalidOperation, TooMany

MAX_GATES = 60
MAX_PRODUCTS = 12
MAX_INPUTS = 8
MAX_OUTPUTS = 6
MAX_TERMS = 2000
LAST_HOUSE = 9


def is_gate(value, index):
    """Whether the value can be the gate with this index."""
    if not isinstance(value, tuple) or not 2 <= len(value) <= 3:
        return False
    word = value[0]
    if word == "input":
        return len(value) == 2 and is_integer(value[1], 1, LAST_HOUSE)
    if word == "constant":
        return len(value) == 2 and is_integer(value[1], 0, MAX_FIELD - 1)
    if len(value) != 3 or not is_integer(value[1], 0, index - 1):
        return False
    if word == "times":
        return is_integer(value[2], 0, MAX_FIELD - 1)
    return word in ("sum", "product") and is_integer(value[2], 0, index - 1)


def are_gates(value):
    """Whether the value is the tuple of the gates of a circuit."""
    if not isinstance(value, tuple) or not 1 <= len(value) <= MAX_GATES:
        return False
    if not all([is_gate(gate, index) for index, gate in enumerate(value)]):
        return False
    return len(indices_of(value, "input")) <= MAX_INPUTS and len(indices_of(value, "product")) <= MAX_PRODUCTS


def is_output(value, many):
    """Whether the value is a pair of an index below `many` and of houses."""
    if not isinstance(value, tuple) or len(value) != 2 or not is_integer(value[0], 0, many - 1):
        return False
    return is_ascending(value[1], 1, LAST_HOUSE) and value[1] != ()


def are_outputs(value, many):
    """Whether the value is the tuple of the outputs of a circuit of so many gates."""
    if not isinstance(value, tuple) or not 1 <= len(value) <= MAX_OUTPUTS:
        return False
    return all([is_output(pair, many) for pair in value])


def indices_of(gates, word):
    """The ascending tuple of the indices of the gates with this word."""
    return tuple([index for index, gate in enumerate(gates) if gate[0] == word])


def looked_at(gate):
    """The indices that a gate looks at."""
    if gate[0] in ("sum", "product"):
        return gate[1:]
    return gate[1:2] if gate[0] == "times" else ()


def depths_of(gates):
    """The list of the levels of all gates."""
    depths = []
    for gate in gates:
        if gate[0] == "times":
            depths.append(depths[gate[1]])
        elif gate[0] in ("sum", "product"):
            depth = max(depths[gate[1]], depths[gate[2]])
            depths.append(depth + 1 if gate[0] == "product" else depth)
        else:
            depths.append(0)
    return depths


def levels_of(gates, depths):
    """For each level from 1 on the ascending tuple of its products."""
    found = [[] for _ in range(max(depths))]
    for index, gate in enumerate(gates):
        if gate[0] == "product":
            found[depths[index] - 1].append(index)
    return tuple([tuple(level) for level in found])


def gate_number(field, gate, numbers):
    """The number of a gate that is no input, by the numbers of the gates ahead of it."""
    if gate[0] == "constant":
        return gate[1] % field
    if gate[0] == "sum":
        return (numbers[gate[1]] + numbers[gate[2]]) % field
    if gate[0] == "times":
        return numbers[gate[1]] * gate[2] % field
    return numbers[gate[1]] * numbers[gate[2]] % field


def meaning_of(field, gates, given):
    """The tuple of the numbers of all gates, the inputs having the given ones in turn."""
    numbers = []
    taken = 0
    for gate in gates:
        if gate[0] == "input":
            numbers.append(given[taken])
            taken += 1
        else:
            numbers.append(gate_number(field, gate, numbers))
    return tuple(numbers)


class Circuit:
    """Gates that work out numbers, and the outputs that houses are told. It never changes."""

    def __init__(self, gates, outputs):
        if not are_gates(gates) or not are_outputs(outputs, len(gates)):
            raise InvalidCircuit("not the gates and the outputs of a circuit")
        self._gates = gates
        self._outputs = outputs
        self._inputs = indices_of(gates, "input")
        self._houses = tuple([gates[index][1] for index in self._inputs])
        # What halls ask of a circuit: the level of each gate, the number of the products, the greatest house, and the
        # greatest constant or factor.
        self.depths = depths_of(gates)
        self._levels = levels_of(gates, self.depths)
        self.products = sum([len(level) for level in self._levels])
        self.last_house = max([houses[-1] for index, houses in outputs] + list(self._houses))
        self.top_number = max([gate[-1] for gate in gates if gate[0] in ("constant", "times")] + [0])

    @property
    def gates(self):
        """The tuple of the gates."""
        return self._gates

    @property
    def outputs(self):
        """The tuple of the outputs."""
        return self._outputs

    @property
    def inputs(self):
        """The indices of the inputs."""
        return self._inputs

    @property
    def houses(self):
        """The houses of the inputs, in their sequence."""
        return self._houses

    @property
    def levels(self):
        """For each level from 1 on its products."""
        return self._levels

    def __eq__(self, other):
        return isinstance(other, Circuit) and self._gates == other._gates and self._outputs == other._outputs

    def __str__(self):
        return f"circuit of {len(self._gates)} gates, {self.products} products"

    def inputs_of(self, house):
        """The indices of the inputs of a house."""
        check_integer(house, 1, LAST_HOUSE)
        return tuple([index for index in self._inputs if self._gates[index][1] == house])

    def meaning(self, field, numbers):
        """The numbers of all gates for these inputs."""
        check_field(field)
        if not are_inputs(field, self, numbers):
            raise InvalidInputs("not a number for each input")
        return meaning_of(field, self._gates, numbers)

    def told(self, field, numbers):
        """The numbers of the outputs for these inputs."""
        found = self.meaning(field, numbers)
        return tuple([found[index] for index, houses in self._outputs])


def are_inputs(field, circuit, value):
    """Whether the value has a number for each input."""
    return are_numbers(field, value) and len(value) == len(circuit.inputs)


def check_circuit(circuit):
    """Refuse what is no circuit."""
    if not isinstance(circuit, Circuit):
        raise InvalidCircuit("not a circuit")


def needed(gates, goals):
    """The ascending list of the indices of the gates on which the goals hang, themselves included."""
    marks = {index: True for index in goals}
    for index in reversed(range(len(gates))):
        if index in marks:
            for k in looked_at(gates[index]):
                marks[k] = True
    return sorted(marks)


# While they are made, forms have whole integers for tuples of exponents: digits to the
# base 2 p - 1, in which the exponents of a product, at most 2 p - 2, are added at once.


def unit_of(field, many, place):
    """The integer for the letter with this place among so many, to the power 1."""
    return rows_count(2 * field - 1, many - 1 - place)


def exponent_of(field, unit, letters):
    """The exponent of the letter with this unit."""
    return letters // unit % (2 * field - 1)


def exponents_of(field, many, letters):
    """The tuple of the exponents of all letters."""
    return tuple([exponent_of(field, unit_of(field, many, place), letters) for place in range(many)])


def without_zeros(field, terms):
    """The terms whose number in the field is not 0."""
    return {letters: x % field for letters, x in terms.items() if x % field != 0}


def form_sum(field, one, other):
    """The sum of two forms."""
    total = {letters: x for letters, x in one.items()}
    for letters, x in other.items():
        total[letters] = total.get(letters, 0) + x
    return without_zeros(field, total)


def highest(field, unit, terms):
    """The highest exponent of a letter."""
    return max([exponent_of(field, unit, letters) for letters in terms])


def lowered(field, unit, terms):
    """The terms with all exponents of a letter above p - 1 lowered by p - 1."""
    total = {}
    for letters, x in terms.items():
        low = letters if exponent_of(field, unit, letters) < field else letters - (field - 1) * unit
        total[low] = total.get(low, 0) + x
    return without_zeros(field, total)


def form_product(field, many, one, other):
    """The product of two forms in so many letters."""
    if not one or not other:
        return {}
    raw = {}
    for letters, x in one.items():
        for more, y in other.items():
            both = letters + more
            raw[both] = raw.get(both, 0) + x * y
    total = without_zeros(field, raw)
    for place in range(many):
        unit = unit_of(field, many, place)
        # Most products need no lowering, and it goes through all of their terms.
        if highest(field, unit, one) + highest(field, unit, other) >= field:
            total = lowered(field, unit, total)
    return total


def gate_form(field, many, gate, forms):
    """The form of a gate that is no input, by the forms of the gates ahead of it."""
    if gate[0] == "constant":
        return without_zeros(field, {0: gate[1]})
    if gate[0] == "sum":
        return form_sum(field, forms[gate[1]], forms[gate[2]])
    if gate[0] == "times":
        return without_zeros(field, {letters: x * gate[2] for letters, x in forms[gate[1]].items()})
    return form_product(field, many, forms[gate[1]], forms[gate[2]])


def forms_of(field, circuit, goals):
    """The dict of the forms of all gates on which the goals hang."""
    places = {index: place for place, index in enumerate(circuit.inputs)}
    many = len(places)
    forms = {}
    for index in needed(circuit.gates, goals):
        if index in places:
            forms[index] = {unit_of(field, many, places[index]): 1}
        else:
            forms[index] = gate_form(field, many, circuit.gates[index], forms)
        if len(forms[index]) > MAX_TERMS:
            raise TooMany(MAX_TERMS)
    return forms


def form_of(field, circuit, gate):
    """The form of a gate, as a dict from tuples of exponents."""
    check_field(field)
    check_circuit(circuit)
    check_integer(gate, 0, len(circuit.gates) - 1)
    form = forms_of(field, circuit, (gate,))[gate]
    many = len(circuit.inputs)
    return {exponents_of(field, many, letters): form[letters] for letters in sorted(form)}


def output_forms(field, circuit):
    """The list of the forms of all outputs."""
    goals = [index for index, houses in circuit.outputs]
    forms = forms_of(field, circuit, goals)
    return [forms[index] for index in goals]


def check_comparable(one, other):
    """Refuse circuits with other inputs, or with outputs for others."""
    goals = [[houses for index, houses in circuit.outputs] for circuit in (one, other)]
    if one.houses != other.houses or goals[0] != goals[1]:
        raise InvalidOperation("the circuits have other inputs, or outputs for others")


def with_first(field, form, number):
    """What is left of a form if its first letter is the number."""
    powers = [1]
    for _ in range(field - 1):
        powers.append(powers[-1] * number % field)
    total = {}
    for exponents, x in form.items():
        rest = exponents[1:]
        total[rest] = total.get(rest, 0) + x * powers[exponents[0]]
    return without_zeros(field, total)


def least_inputs(field, many, form):
    """Letter by letter the least number that leaves something of a form other than 0."""
    found = []
    left = {exponents_of(field, many, letters): x for letters, x in form.items()}
    for _ in range(many):
        number = 0
        rest = with_first(field, left, number)
        while not rest:
            number += 1
            rest = with_first(field, left, number)
        found.append(number)
        left = rest
    return tuple(found)


def alike_or_parted(field, one, other):
    """Whether two circuits tell the same for all inputs, or the first output and least inputs that part them."""
    check_field(field)
    check_circuit(one)
    check_circuit(other)
    check_comparable(one, other)
    pairs = list(zip(output_forms(field, one), output_forms(field, other)))
    for index, (form, form2) in enumerate(pairs):
        if form != form2:
            negative = {letters: -x for letters, x in form2.items()}
            return "parted", index, least_inputs(field, len(one.inputs), form_sum(field, form, negative))
    return ("alike",)


def is_parting(field, one, other, index, value):
    """Whether the value is a tuple of inputs at which the output with the index parts the circuits."""
    check_field(field)
    check_circuit(one)
    check_circuit(other)
    check_integer(index, 0, len(one.outputs) - 1)
    check_comparable(one, other)
    if not are_inputs(field, one, value):
        return False
    return one.told(field, value)[index] != other.told(field, value)[index]


def renumbered(gate, names):
    """The gate with the new indices of what it looks at."""
    many = len(looked_at(gate))
    return gate[:1] + tuple([names[k] for k in gate[1:1 + many]]) + gate[1 + many:]


def pruned(circuit):
    """The circuit without the gates on which no output hangs; all inputs stay."""
    check_circuit(circuit)
    goals = [index for index, houses in circuit.outputs]
    kept = needed(circuit.gates, goals + list(circuit.inputs))
    names = {index: place for place, index in enumerate(kept)}
    gates = tuple([renumbered(circuit.gates[index], names) for index in kept])
    return Circuit(gates, tuple([(names[index], houses) for index, houses in circuit.outputs]))
