"""Programs: takes, lets, repeats and tells; what they tell, and the same without repeats."""

from evencoins.base.field import MAX_FIELD, are_numbers, check_field, is_ascending, is_integer, raised
from evencoins.base.polys import evaluated, interpolated
from evencoins.errors import InvalidInputs, InvalidProgram, Refused, TooMany
from evencoins.plan.circuits import LAST_HOUSE, MAX_INPUTS, MAX_OUTPUTS

MAX_STATEMENTS = 40
MAX_DONE = 200
MAX_POWER = 60
MAX_PAIRS = 12
MAX_DEEP = 6
LONGEST_NAME = 8
LONGEST_ROW = 8
MOST_REPEATS = 12
LETTERS = "abcdefghijklmnopqrstuvwxyz"
# How many expressions stand behind the word; behind those of the last two words stands one thing more.
PARTS = {"plus": 2, "minus": 2, "times": 2, "equal": 2, "choose": 3, "power": 1, "table": 1}


def is_constant(value):
    """Whether the value is an integer as it stands in programs."""
    return is_integer(value, 0, MAX_FIELD - 1)


def is_name(value):
    """Whether the value is a name."""
    if not isinstance(value, str) or not 1 <= len(value) <= LONGEST_NAME:
        return False
    return all([letter in LETTERS for letter in value])


def are_pairs(value):
    """Whether the value is the tuple of the pairs of a table."""
    if not isinstance(value, tuple) or not 1 <= len(value) <= MAX_PAIRS:
        return False
    if not all([isinstance(pair, tuple) and len(pair) == 2 for pair in value]):
        return False
    places = tuple([place for place, number in value])
    return is_ascending(places, 0, MAX_FIELD - 1) and all([is_constant(number) for place, number in value])


def is_last_part(word, value):
    """Whether the value can stand behind the expression of a power or of a table."""
    return is_integer(value, 0, MAX_POWER) if word == "power" else are_pairs(value)


def is_expression(value, deep):
    """Whether the value is an expression that is nested at most so deep."""
    if deep == 0:
        return False
    if not isinstance(value, tuple):
        return is_constant(value) or is_name(value)
    if value == () or not isinstance(value[0], str) or value[0] not in PARTS:
        return False
    parts = value[1:1 + PARTS[value[0]]]
    rest = value[1 + PARTS[value[0]]:]
    if len(parts) != PARTS[value[0]] or not all([is_expression(part, deep - 1) for part in parts]):
        return False
    if value[0] in ("power", "table"):
        return len(rest) == 1 and is_last_part(value[0], rest[0])
    return rest == ()


def is_let(value):
    """Whether the value is a let."""
    if not isinstance(value, tuple) or len(value) != 3 or value[0] != "let":
        return False
    return is_name(value[1]) and is_expression(value[2], MAX_DEEP)


def is_row(value):
    """Whether the value is a row that can be repeated."""
    if not isinstance(value, tuple) or not 1 <= len(value) <= LONGEST_ROW:
        return False
    return all([is_let(statement) for statement in value])


def is_statement(value):
    """Whether the value is a statement."""
    if not isinstance(value, tuple) or len(value) != 3:
        return False
    word, first, second = value
    if word == "take":
        return is_name(first) and is_integer(second, 1, LAST_HOUSE)
    if word == "repeat":
        return is_integer(first, 0, MOST_REPEATS) and is_row(second)
    if word == "tell":
        return is_expression(first, MAX_DEEP) and is_ascending(second, 1, LAST_HOUSE) and second != ()
    return is_let(value)


def parts_of(expression):
    """The expressions of which an expression is made."""
    return expression[1:1 + PARTS[expression[0]]] if isinstance(expression, tuple) else ()


def row_of(statement):
    """The statements that a statement stands for, once each."""
    return statement[2] if statement[0] == "repeat" else (statement,)


def expression_of(statement):
    """The expression of a statement; an integer for a take, which has none."""
    if statement[0] == "take":
        return 0
    return statement[2] if statement[0] == "let" else statement[1]


def are_made(expression, names):
    """Whether all names in the expression are among these."""
    if isinstance(expression, str):
        return expression in names
    return all([are_made(part, names) for part in parts_of(expression)])


def has_names(program):
    """Whether each name stands in expressions only behind a statement that has made it."""
    names = {}
    for statement in program:
        for step in row_of(statement):
            if not are_made(expression_of(step), names):
                return False
            if step[0] != "tell":
                names[step[1]] = True
    return True


def done_count(program):
    """How many statements are done."""
    return sum([len(row_of(step)) * (step[1] if step[0] == "repeat" else 1) for step in program])


def word_count(program, word):
    """How many statements have this word."""
    return len([statement for statement in program if statement[0] == word])


def is_program(value):
    """Whether the value is a program."""
    if not isinstance(value, tuple) or not 1 <= len(value) <= MAX_STATEMENTS:
        return False
    if not all([is_statement(statement) for statement in value]):
        return False
    if word_count(value, "take") > MAX_INPUTS or not 1 <= word_count(value, "tell") <= MAX_OUTPUTS:
        return False
    return done_count(value) <= MAX_DONE and has_names(value)


def check_program(program):
    """Refuse what is no program."""
    if not is_program(program):
        raise InvalidProgram("not a program")


def fits(field, expression):
    """Whether all tables in the expression have places that are unlike in the field."""
    if isinstance(expression, tuple) and expression[0] == "table":
        places = [place % field for place, number in expression[2]]
        if len(set(places)) < len(places):
            return False
    return all([fits(field, part) for part in parts_of(expression)])


def fits_all(field, program):
    """Whether what is known to be a program is fit, with all that stands in it, done or not."""
    return all([fits(field, expression_of(step)) for statement in program for step in row_of(statement)])


def is_fit(field, program):
    """Whether a program is fit for the field."""
    check_field(field)
    check_program(program)
    return fits_all(field, program)


def check_fit(field, program):
    """Refuse a program that is not fit."""
    if not fits_all(field, program):
        raise Refused(("places",))


def houses_of(program):
    """The houses of all takes."""
    check_program(program)
    return tuple([statement[2] for statement in program if statement[0] == "take"])


def steps_of(program):
    """What is done, in turn; for each let of a row that is repeated no time ("zero", name, 0)."""
    steps = []
    for statement in program:
        if statement[0] != "repeat":
            steps.append(statement)
        elif statement[1] == 0:
            steps.extend([("zero", name, 0) for word, name, expression in statement[2]])
        else:
            for _ in range(statement[1]):
                steps.extend(statement[2])
    return steps


def table_poly(field, pairs):
    """The poly of a table that is fit for the field."""
    places = [place % field for place, number in pairs]
    return interpolated(field, places, [number % field for place, number in pairs])


def value_of(field, expression, values):
    """The value of an expression, by the values of the names."""
    if isinstance(expression, str):
        return values[expression]
    if isinstance(expression, int):
        return expression % field
    word = expression[0]
    found = [value_of(field, part, values) for part in parts_of(expression)]
    if word == "power":
        return raised(field, found[0], expression[2])
    if word == "table":
        return evaluated(field, table_poly(field, expression[2]), found[0])
    if word == "choose":
        return (found[0] * found[1] + (1 - found[0]) * found[2]) % field
    return value_of_two(field, word, found[0], found[1])


def value_of_two(field, word, one, other):
    """What the word makes of two values."""
    if word == "equal":
        return 1 if one == other else 0
    if word == "plus":
        return (one + other) % field
    return (one - other if word == "minus" else one * other) % field


def run_program(field, program, numbers):
    """The tuple of the values of all tells."""
    check_field(field)
    check_program(program)
    if not are_numbers(field, numbers) or len(numbers) != word_count(program, "take"):
        raise InvalidInputs("not a number for each take")
    check_fit(field, program)
    values = {}
    taken = 0
    told = []
    for word, first, second in steps_of(program):
        if word == "take":
            values[first] = numbers[taken]
            taken += 1
        elif word == "let":
            values[first] = value_of(field, second, values)
        elif word == "tell":
            told.append(value_of(field, first, values))
        else:
            values.setdefault(first, 0)
    return tuple(told)


def name_with(index):
    """The name with this index among a, b, .., z, aa, ab, .."""
    many = len(LETTERS)
    return LETTERS[index] if index < many else LETTERS[index // many - 1] + LETTERS[index % many]


def renamed(expression, names):
    """The expression with other names, or integers, for its names."""
    if isinstance(expression, str):
        return names[expression]
    if isinstance(expression, int):
        return expression
    parts = parts_of(expression)
    return expression[:1] + tuple([renamed(part, names) for part in parts]) + expression[1 + len(parts):]


def straight(program):
    """The same program without repeats, in which no name is made twice."""
    check_program(program)
    names = {}
    rows = []
    made = 0
    for word, first, second in steps_of(program):
        if word == "tell":
            rows.append((word, renamed(first, names), second))
        elif word == "zero":
            names.setdefault(first, 0)
        else:
            name = name_with(made)
            made += 1
            rows.append((word, name, second if word == "take" else renamed(second, names)))
            names[first] = name
    if len(rows) > MAX_STATEMENTS:
        raise TooMany(MAX_STATEMENTS)
    return tuple(rows)
