"""Programs as circuits, their costs and sizes; circuits with equal gates once."""

from evencoins.base.field import check_field
from evencoins.base.polys import padded
from evencoins.errors import TooMany
from evencoins.plan.circuits import MAX_GATES, MAX_PRODUCTS, Circuit, check_circuit, output_forms, pruned, renumbered
from evencoins.plan.programs import check_fit, check_program, expression_of, parts_of, steps_of, table_poly


def halvings(many):
    """How many products make a power by halving: the h of the costs."""
    if many < 2:
        return 0
    return halvings(many // 2) + 1 + many % 2


def products_of(field, expression):
    """How many products an expression costs besides its parts."""
    if not isinstance(expression, tuple):
        return 0
    word = expression[0]
    if word == "power":
        return halvings(expression[2])
    if word == "equal":
        return halvings(field - 1)
    if word == "table":
        return max(len(expression[2]) - 2, 0)
    if word == "times":
        return 0 if isinstance(expression[1], int) or isinstance(expression[2], int) else 1
    return 1 if word == "choose" and not isinstance(expression[1], int) else 0


def gates_of(field, expression):
    """How many gates an expression has besides those of its parts."""
    if not isinstance(expression, tuple):
        return 1 if isinstance(expression, int) else 0
    word = expression[0]
    if word == "power":
        return halvings(expression[2]) + 1
    if word == "equal":
        return halvings(field - 1) + 5
    if word == "table":
        return 3 * len(expression[2])
    if word == "choose":
        return 4
    return 2 if word == "minus" else 1


def cost_with_parts(field, expression):
    """The cost of an expression."""
    return products_of(field, expression) + sum([cost_with_parts(field, part) for part in parts_of(expression)])


def size_with_parts(field, expression):
    """The size of an expression."""
    return gates_of(field, expression) + sum([size_with_parts(field, part) for part in parts_of(expression)])


def expressions_done(program):
    """The expressions of all lets and tells that are done, each as often as it is done."""
    return [expression_of(step) for step in steps_of(program) if step[0] in ("let", "tell")]


def total_cost(field, program):
    """The cost of what is known to be a program."""
    return sum([cost_with_parts(field, expression) for expression in expressions_done(program)])


def total_size(field, program):
    """The size of what is known to be a program: the 1 is for a constant 0, for what rows done no time have made."""
    takes = [statement for statement in program if statement[0] == "take"]
    return sum([size_with_parts(field, expression) for expression in expressions_done(program)]) + len(takes) + 1


def cost_of(field, program):
    """The cost of a program: as many products are enough."""
    check_field(field)
    check_program(program)
    return total_cost(field, program)


def size_of(field, program):
    """The size of a program: as many gates are enough."""
    check_field(field)
    check_program(program)
    return total_size(field, program)


def put(gates, gate):
    """Put a gate to the others; its index."""
    gates.append(gate)
    return len(gates) - 1


def put_difference(field, gates, one, other):
    """Gates for the difference of two others."""
    less = put(gates, ("times", other, field - 1))
    return put(gates, ("sum", one, less))


def put_power(gates, base, many):
    """Gates for a power from 1 on, by halving."""
    if many == 1:
        return base
    half = put_power(gates, base, many // 2)
    whole = put(gates, ("product", half, half))
    return put(gates, ("product", whole, base)) if many % 2 == 1 else whole


def put_equal(field, gates, one, other):
    """Gates for 1 less the power p - 1 of the difference, which is 1 for all numbers but 0."""
    unlike = put_power(gates, put_difference(field, gates, one, other), field - 1)
    return put_difference(field, gates, put(gates, ("constant", 1)), unlike)


def put_product(field, gates, names, one, other):
    """Gates for the product of two expressions; a multiple if one of them is an integer."""
    if isinstance(one, int):
        return put(gates, ("times", put_expression(field, gates, names, other), one % field))
    if isinstance(other, int):
        return put(gates, ("times", put_expression(field, gates, names, one), other % field))
    first = put_expression(field, gates, names, one)
    return put(gates, ("product", first, put_expression(field, gates, names, other)))


def put_choice(field, gates, names, expression):
    """Gates for g + e (f - g)."""
    word, chooser, one, other = expression
    first = put_expression(field, gates, names, one)
    second = put_expression(field, gates, names, other)
    change = put_difference(field, gates, first, second)
    if isinstance(chooser, int):
        part = put(gates, ("times", change, chooser % field))
    else:
        part = put(gates, ("product", put_expression(field, gates, names, chooser), change))
    return put(gates, ("sum", second, part))


def put_table(field, gates, place, pairs):
    """Gates for the value of a table's poly, from the highest number down."""
    numbers = padded(table_poly(field, pairs), len(pairs))
    if len(pairs) == 1:
        return put(gates, ("constant", numbers[0]))
    # The highest number is known, so that it is no product with the place, but a multiple of it.
    value = put(gates, ("times", place, numbers[-1]))
    value = put(gates, ("sum", value, put(gates, ("constant", numbers[-2]))))
    for number in reversed(numbers[:-2]):
        value = put(gates, ("product", value, place))
        value = put(gates, ("sum", value, put(gates, ("constant", number))))
    return value


def put_expression(field, gates, names, expression):
    """Gates for an expression; the index of the one that has its value."""
    if isinstance(expression, str):
        return names[expression]
    if isinstance(expression, int):
        return put(gates, ("constant", expression % field))
    word = expression[0]
    if word == "times":
        return put_product(field, gates, names, expression[1], expression[2])
    if word == "choose":
        return put_choice(field, gates, names, expression)
    if word == "power" and expression[2] == 0:
        return put(gates, ("constant", 1))
    found = [put_expression(field, gates, names, part) for part in parts_of(expression)]
    if word == "power":
        return put_power(gates, found[0], expression[2])
    if word == "table":
        return put_table(field, gates, found[0], expression[2])
    if word == "equal":
        return put_equal(field, gates, found[0], found[1])
    if word == "minus":
        return put_difference(field, gates, found[0], found[1])
    return put(gates, ("sum", found[0], found[1]))


def put_step(field, gates, names, outputs, step):
    """Gates, and perhaps an output, for what is done in one step."""
    word, first, second = step
    if word == "take":
        names[first] = put(gates, ("input", second))
    elif word == "let":
        names[first] = put_expression(field, gates, names, second)
    elif word == "tell":
        outputs.append((put_expression(field, gates, names, first), second))
    elif first not in names:
        # One constant for all these names, as the size counts only one. No name is empty.
        if "" not in names:
            names[""] = put(gates, ("constant", 0))
        names[first] = names[""]


def circuit_of(field, program):
    """The circuit for a program that is known to be small enough."""
    gates = []
    names = {}
    outputs = []
    for step in steps_of(program):
        put_step(field, gates, names, outputs, step)
    return Circuit(tuple(gates), tuple(outputs))


def compiled(field, program):
    """A circuit that is made from the program."""
    check_field(field)
    check_program(program)
    check_fit(field, program)
    if total_cost(field, program) > MAX_PRODUCTS:
        raise TooMany(MAX_PRODUCTS)
    if total_size(field, program) > MAX_GATES:
        raise TooMany(MAX_GATES)
    return circuit_of(field, program)


def is_compiled(field, program, value):
    """Whether the value is a circuit that is made from the program."""
    circuit = compiled(field, program)
    forms = output_forms(field, circuit)
    if not isinstance(value, Circuit):
        return False
    other_forms = output_forms(field, value)
    goals = [[houses for index, houses in each.outputs] for each in (circuit, value)]
    return circuit.houses == value.houses and goals[0] == goals[1] and forms == other_forms


def merged(circuit):
    """The circuit with equal gates once, and without those on which no output hangs."""
    check_circuit(circuit)
    gates = []
    names = {}
    seen = {}
    for index, gate in enumerate(circuit.gates):
        found = renumbered(gate, names)
        if gate[0] in ("sum", "product"):
            found = gate[:1] + (min(found[1:]), max(found[1:]))
        if gate[0] == "input":
            names[index] = put(gates, gate)
        elif found in seen:
            names[index] = seen[found]
        else:
            names[index] = put(gates, found)
            seen[found] = names[index]
    return pruned(Circuit(tuple(gates), tuple([(names[index], houses) for index, houses in circuit.outputs])))
