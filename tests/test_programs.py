"""Stage 8: programs."""

import random

from evencoins.errors import InvalidInputs, InvalidNumber, InvalidProgram, Refused, TooMany
from evencoins.plan.programs import houses_of, is_fit, is_program, run_program, straight
from tests.helper import CIRCUIT, LONG, ODD, WRONG_FIELDS, Case, all_rows, nested, wrong_rows

FIELD = (InvalidNumber, WRONG_FIELDS)
P = (("take", "x", 2), ("take", "y", 1), ("let", "s", ("plus", "x", "y")),
     ("repeat", 2, (("let", "s", ("times", "s", "s")),)), ("tell", "s", (1, 3)))
TAKE, LET, TELL = ("take", "x", 1), ("let", "y", ("plus", "x", 1)), ("tell", "x", (1,))
EXPRESSIONS = (
    0, 996, "x", ("plus", "x", 1), ("minus", 0, "x"), ("times", "x", "x"), ("power", "x", 0), ("power", "x", 60),
    ("power", 2, 1), ("equal", "x", 996), ("choose", "x", 1, "x"), ("table", "x", ((0, 0),)),
    ("table", "x", ((996, 996),)), ("table", "x", ((0, 1), (1, 0))), ("table", 3, ((2, 5), (3, 5), (996, 0))),
    ("table", "x", tuple((k, k) for k in range(12))), ("plus", ("times", "x", 2), ("power", ("minus", 1, "x"), 3)),
)
WRONG_EXPRESSIONS = (
    997, -1, True, False, None, LONG, -LONG, "", "X", "x1", "x_", "x ", "\u00e4", "xxxxxxxxx", "x" * 3000, "\n", (),
    [], ["x"], {}, {"x": 1}, CIRCUIT, ("x",), (1,), ("plus",), ("plus", 1), ("plus", 1, 1, 1), ["plus", 1, 1],
    ("plus", 997, 1), ("plus", 1, 997), ("plus", True, 1), ("plus", 1, None), ("plus", [1], 1), ("plus", (1,), 1),
    ("minus", 1), ("minus", "x", "X"), ("times", 1), ("times", 1, 1, 1), ("equal", 1), ("equal", 1, 1, 1),
    ("power", "x"), ("power", "x", 61), ("power", "x", -1), ("power", "x", True), ("power", "x", False),
    ("power", "x", None), ("power", "x", "x"), ("power", "x", (1,)), ("power", "x", 2, 2), ("power", 997, 2),
    ("power", "x", LONG), ("choose", "x", 1), ("choose", "x", 1, 1, 1), ("choose", 1, 1, -1), ("choose", True, 1, 1),
    ("table", "x"), ("table", "x", ()), ("table", "x", ((0, 1),), 1), ("table", 997, ((0, 1),)),
    ("table", "x", [(0, 1)]), ("table", "x", ([0, 1],)), ("table", "x", ((0, 1, 2),)), ("table", "x", ((0,),)),
    ("table", "x", (0, 1)), ("table", "x", ((0, 997),)), ("table", "x", ((997, 0),)), ("table", "x", ((-1, 0),)),
    ("table", "x", ((0, -1),)), ("table", "x", ((True, 0),)), ("table", "x", ((0, False),)),
    ("table", "x", ((None, 0),)), ("table", "x", ((0, None),)), ("table", "x", ((0, "x"),)), ("table", "x", {0: 1}),
    ("table", "x", ((1, 0), (1, 0))), ("table", "x", ((1, 0), (1, 1))), ("table", "x", ((2, 0), (1, 1))),
    ("table", "x", ((0, 0), (1, 1), (1, 2))), ("table", "x", tuple((k, k) for k in range(13))), ("table", "x", None),
    ("table", "x", 1), ("table", "x", "x"), ("table", "x", (("0", 1),)), ("Plus", 1, 1), ("add", 1, 1), (None, 1, 1),
    (1, 1, 1), ((), 1, 1), ([], 1, 1), ({}, 1, 1), ("let", "x", 1), ("x", 1, 1), (CIRCUIT, 1, 1), ("plus", CIRCUIT, 1),
    nested(tuple, 7), nested(list, 7), nested(dict, 7),
)
WRONG_STATEMENTS = (
    (), ("take",), ("take", "x"), ("take", "x", 1, 1), ["take", "x", 1], ("take", "x", 0), ("take", "x", 10),
    ("take", "x", True), ("take", "x", None), ("take", "x", "1"), ("take", "x", (1,)), ("take", "", 1),
    ("take", "xxxxxxxxx", 1), ("take", "X", 1), ("take", 1, 1), ("take", None, 1), ("take", ("x",), 1), ("take", [], 1),
    ("let", "x"), ("let", "x", 1, 1), ["let", "x", 1], ("let", "", 1), ("let", "xxxxxxxxx", 1), ("let", "a-b", 1),
    ("let", 1, 1), ("let", None, 1), ("let", ["x"], 1), ("let", True, 1),
    ("repeat", 1), ("repeat", 1, ()), ("repeat", 13, (LET,)), ("repeat", -1, (LET,)), ("repeat", True, (LET,)),
    ("repeat", False, (LET,)), ("repeat", None, (LET,)), ("repeat", "1", (LET,)), ("repeat", 1, (LET,) * 9),
    ("repeat", 1, [LET]), ("repeat", 1, LET), ("repeat", 1, (list(LET),)), ("repeat", 1, (TAKE,)),
    ("repeat", 1, (TELL,)), ("repeat", 1, (("repeat", 1, (LET,)),)), ("repeat", 1, (LET,), 1), ["repeat", 1, (LET,)],
    ("repeat", 1, (LET, None)), ("repeat", 1, None), ("repeat", LONG, (LET,)), ("repeat", 1, (("let", "x", 997),)),
    ("tell", "x"), ("tell", "x", ()), ("tell", "x", (0,)), ("tell", "x", (10,)), ("tell", "x", (1, 1)),
    ("tell", "x", (2, 1)), ("tell", "x", [1]), ("tell", "x", 1), ("tell", "x", (True,)), ("tell", "x", (None,)),
    ("tell", "x", (1,), 1), ("tell", "x", None), ["tell", "x", (1,)], ("tell", "x", {1: 1}), ("tell", "x", (1, 10)),
    ("tell", 1.0, (1,)), ("give", "x", 1), (None, "x", 1), ((), "x", 1), ([], "x", 1), ("take", CIRCUIT, 1), CIRCUIT,
    ("Take", "x", 1), "take", 1, None, True, ("plus", "x", 1), ("tell", (1,), "x"), ("let", 1, "x"),
)
NUMBERS = (InvalidInputs, wrong_rows(7, 2) + ((), (1,), (1, 1, 1)))
# No programs, whatever stands beside them.
WRONG_PROGRAMS = tuple(odd for odd in ODD) + (
    P[2:], list(P), P[:4], P + (("tell", "z", (1,)),), (), (TAKE,), TELL, (TELL,), P + (None,), (TAKE, list(TELL)),
    (TELL, TAKE),
)


def deep(many):
    """An expression nested so deep."""
    found = "x"
    for k in range(many - 1):
        found = (("plus", found, 1), ("times", 2, found), ("power", found, 2), ("choose", 1, found, 0),
                 ("table", found, ((0, 1), (1, 2))), ("equal", 3, found), ("minus", found, found))[(k + many) % 7]
    return found


def at_table(field, pairs, place):
    """The value at a place of the poly through the pairs."""
    total = 0
    for a, number in pairs:
        term = number
        for b, _ in pairs:
            if b != a:
                term = term * (place - b) * pow(a - b, -1, field) % field
        total += term
    return total % field


def value_by(field, expression, values):
    """The value of an expression, word by word."""
    if isinstance(expression, str):
        return values[expression]
    if isinstance(expression, int):
        return expression % field
    word, first, *rest = expression
    one = value_by(field, first, values)
    if word == "power":
        return one ** rest[0] % field
    if word == "table":
        return at_table(field, rest[0], one)
    others = [value_by(field, part, values) for part in rest]
    if word == "choose":
        return (one * others[0] + (1 - one) * others[1]) % field
    return {"plus": one + others[0], "minus": one - others[0], "times": one * others[0],
            "equal": int(one == others[0])}[word] % field


def told_by(field, program, numbers):
    """What a program tells."""
    values, left, told = {}, list(numbers), []
    for word, first, second in program:
        if word == "take":
            values[first] = left.pop(0)
        elif word == "let":
            values[first] = value_by(field, second, values)
        elif word == "tell":
            told.append(value_by(field, first, values))
        else:
            for _ in range(first):
                for _, name, part in second:
                    values[name] = value_by(field, part, values)
            for _, name, _ in second:
                values[name] = values.get(name, 0)
    return tuple(told)


def random_expression(told, names, many, words):
    """An expression nested at most so deep."""
    if many == 1 or told.randrange(4) == 0:
        return told.choice(names) if names and told.randrange(3) else told.choice((0, 1, 2, 5, 7, 500, 996))
    word = told.choice(words)
    parts = tuple(random_expression(told, names, many - 1, words) for _ in range(
        {"choose": 3, "power": 1, "table": 1}.get(word, 2)))
    if word == "power":
        return (word,) + parts + (told.choice((0, 1, 2, 3, 5, 12, 60)),)
    if word == "table":
        places = sorted(told.sample(range(30), told.randrange(1, 5)))
        return (word,) + parts + (tuple((place, told.randrange(997)) for place in places),)
    return (word,) + parts


def random_program(told, takes, many, words=("plus", "minus", "times", "power", "equal", "choose", "table"), depth=3):
    """A program with so many takes, and about so many other statements."""
    names, rows = [], []
    kinds = ["take"] * takes + [told.choice(("let", "let", "repeat", "tell")) for _ in range(many)]
    told.shuffle(kinds)
    tells = 0
    for kind in kinds + ["tell"]:
        name = told.choice(("a", "b", "c", "x", "nameten"[:7], "zz"))
        if kind == "take":
            rows.append((kind, name, told.randrange(1, 10)))
        elif kind == "let":
            rows.append((kind, name, random_expression(told, names, depth, words)))
        elif kind == "repeat":
            row, known = [], list(names)
            for _ in range(told.randrange(1, 4)):
                row.append(("let", name, random_expression(told, known, depth, words)))
                known.append(name)
                name = told.choice(("a", "b", "r", "s"))
            rows.append((kind, told.choice((0, 0, 1, 2, 3)), tuple(row)))
            names = known
        elif tells < 6:
            tells += 1
            houses = tuple(sorted(told.sample(range(1, 10), told.randrange(1, 4))))
            rows.append((kind, random_expression(told, names, depth, words), houses))
        if kind in ("take", "let"):
            names.append(name)
    return tuple(rows)


def fit_by(field, program):
    """Whether all tables in the program have unlike places."""
    def tables(part):
        if isinstance(part, tuple):
            if part and part[0] == "table":
                yield [place % field for place, _ in part[2]]
            for inner in part:
                yield from tables(inner)
    return all(len(set(places)) == len(places) for places in tables(program))


class ExamplesTest(Case):

    def test_examples(self):
        self.assertEqual([houses_of(P), run_program(7, P, (1, 2)), is_program(P[2:])], [(2, 1), (4,), False])
        self.assertEqual(
            [run_program(5, (("take", "x", 1), ("tell", e, (1,))), (3,)) for e in (
                ("equal", "x", 8), ("choose", "x", 2, 4), ("table", "x", ((0, 1), (1, 2))), ("power", "x", 0))],
            [(1,), (3,), (4,), (1,)])
        self.assertEqual(straight(P)[3:], (
            ("let", "d", ("times", "c", "c")), ("let", "e", ("times", "d", "d")), ("tell", "e", (1, 3))))
        self.raises(Refused, ("places",), run_program, 5,
                    (("take", "x", 1), ("tell", ("table", "x", ((1, 0), (6, 0))), (1,))), (3,))


class ProgramsTest(Case):

    def test_expressions(self):
        for part in EXPRESSIONS:
            for program in ((TAKE, ("tell", part, (1,))), (TAKE, ("let", "x", part), TELL),
                            (TAKE, ("repeat", 0, (LET, ("let", "x", part))), TELL)):
                self.is_true(is_program(program), program)
                self.is_true(is_program((TAKE, ("tell", ("choose", 1, part, ("power", part, 2)), (1,)))))

    def test_wrong_expressions(self):
        for part in WRONG_EXPRESSIONS + (1.0, "\x7f"):
            for program in (
                    (TAKE, ("tell", part, (1,))), (TAKE, ("let", "y", part), TELL),
                    (TAKE, ("repeat", 2, (LET, ("let", "y", part))), TELL), (TAKE, ("tell", ("plus", part, 1), (1,))),
                    (TAKE, ("tell", ("times", 1, part), (1,))), (TAKE, ("tell", ("power", part, 2), (1,))),
                    (TAKE, ("tell", ("choose", 1, "x", part), (1,))),
                    (TAKE, ("tell", ("choose", part, 1, 1), (1,))), (TAKE, ("tell", ("equal", part, 1), (1,))),
                    (TAKE, ("tell", ("table", part, ((0, 1),)), (1,))), (TAKE, ("tell", ("minus", 1, part), (1,)))):
                self.is_false(is_program(program), program)

    def test_nested(self):
        for many in range(1, 7):
            for part in (deep(many), ("plus", 1, deep(many - 1)) if many > 1 else 1):
                self.is_true(is_program((TAKE, ("tell", part, (1,)))), part)
                self.is_true(is_program((TAKE, ("let", "y", part), TELL)), part)
                self.is_true(is_program((TAKE, ("repeat", 1, (("let", "y", part),)), TELL)), part)
        for many in range(7, 15):
            self.is_false(is_program((TAKE, ("tell", deep(many), (1,)))))
            self.is_false(is_program((TAKE, ("let", "y", deep(many)), TELL)))
            self.is_false(is_program((TAKE, ("repeat", 0, (("let", "y", deep(many)),)), TELL)))

    def test_statements(self):
        for house in range(1, 10):
            self.is_true(is_program((("take", "x", house), ("tell", "x", (house,)))))
        for name in ("a", "z", "abcdefgh", "zzzzzzzz", "let"):
            self.is_true(is_program((("take", name, 1), ("let", name, name), ("tell", name, (1,)))))
        for many in range(13):
            for row in ((LET,), (LET,) * 8):
                self.is_true(is_program((TAKE, ("repeat", many, row), TELL)))
        self.is_true(is_program((("tell", 3, tuple(range(1, 10))),)))
        self.is_true(is_program((TAKE, ("take", "x", 2), ("let", "x", 1), ("repeat", 0, (("let", "x", "x"),)), TELL)))

    def test_wrong_statements(self):
        for statement in WRONG_STATEMENTS:
            self.is_false(is_program((TAKE, statement, TELL)), statement)
            self.is_false(is_program((TAKE, LET, TELL, statement)), statement)
            if isinstance(statement, tuple) and statement[:1] == ("let",):
                self.is_false(is_program((TAKE, ("repeat", 1, (LET, statement)), TELL)))

    def test_names_in_sequence(self):
        made = ("let", "y", 1)
        wants = ("let", "z", ("plus", 1, "y"))
        right = (
            (made, wants, TELL), (("repeat", 1, (made, wants)), TELL), (("repeat", 0, (made,)), wants, TELL),
            (("repeat", 0, (made, wants)), ("tell", "z", (1,)), TELL), (("let", "x", "x"), TELL),
            (made, ("repeat", 0, (wants,)), ("tell", "z", (1,))), (made, ("repeat", 3, (wants, made)), TELL),
            (("take", "y", 3), wants, TELL))
        for rows in right:
            self.is_true(is_program((TAKE,) + rows), rows)
        wrong = (
            (wants, made, TELL), (("let", "y", "y"), TELL), (("repeat", 1, (wants, made)), TELL),
            (("repeat", 2, (wants, made)), TELL), (("repeat", 0, (wants, made)), TELL), (wants, TELL),
            (wants, ("repeat", 1, (made,)), TELL), (("tell", "y", (1,)), made, TELL), (wants, ("take", "y", 3), TELL),
            (("repeat", 0, (("let", "y", "y"),)), TELL), (("tell", ("table", "y", ((0, 1),)), (1,)), TELL),
            (("tell", ("choose", 1, 1, "y"), (1,)), TELL), (("tell", ("power", "y", 0), (1,)), TELL))
        for rows in wrong:
            self.is_false(is_program((TAKE,) + rows), rows)
        self.is_false(is_program((TELL, TAKE)))
        self.is_false(is_program((("tell", 1, (1,)), TELL, TAKE)))

    def test_forty_statements(self):
        self.is_true(is_program((TAKE,) + (LET,) * 38 + (TELL,)))
        self.is_false(is_program((TAKE,) + (LET,) * 39 + (TELL,)))
        self.is_true(is_program((("tell", 1, (1,)),)))
        self.is_false(is_program(()))

    def test_two_hundred_done(self):
        rows = (TAKE, ("repeat", 12, (LET,) * 8), ("repeat", 12, (LET,) * 8))
        self.is_true(is_program(rows + (LET,) * 6 + (TELL,)))
        self.is_false(is_program(rows + (LET,) * 7 + (TELL,)))
        self.is_false(is_program(rows + (LET,) * 6 + (TELL,) * 2))
        self.is_true(is_program(rows + (LET,) * 6 + (("repeat", 0, (LET,) * 8),) * 9 + (TELL,)))
        self.is_true(is_program(rows + (("repeat", 1, (LET,) * 6),) + (TELL,)))
        self.is_false(is_program(rows + (("repeat", 7, (LET,)),) + (TELL,)))
        self.is_false(is_program((TAKE,) + (("repeat", 12, (LET,) * 8),) * 38 + (TELL,)))

    def test_takes_and_tells(self):
        self.is_true(is_program((TAKE,) * 8 + (TELL,)))
        self.is_false(is_program((TAKE,) * 9 + (TELL,)))
        for many in range(1, 7):
            self.is_true(is_program((TAKE,) + (TELL,) * many))
        self.is_false(is_program((TAKE,) + (TELL,) * 7))
        self.is_false(is_program((TAKE,)))
        self.is_false(is_program((LET[:2] + (1,),)))

    def test_no_programs(self):
        self.judges(is_program, ())
        self.judges(is_program, (), WRONG_PROGRAMS)
        for odd in [odd for odd in ODD if not isinstance(odd, str) or odd not in ("a", "near")]:
            self.is_false(is_program((TAKE, odd, TELL)))
            self.is_false(is_program((TAKE, ("take", odd, 1), TELL)))
            self.is_false(is_program((TAKE, ("let", odd, 1), TELL)))
            self.is_false(is_program((TAKE, ("repeat", odd, (LET,)), TELL)))
            self.is_false(is_program((TAKE, ("repeat", 1, odd), TELL)))
            self.is_false(is_program((TAKE, ("repeat", 1, (odd,)), TELL)))
            self.is_false(is_program((TAKE, ("tell", "x", odd), TELL)))
            self.is_false(is_program((TAKE, (odd, "x", 1), TELL)))

    def test_spoilt_at_one_place(self):
        def spoilt(part):
            if isinstance(part, tuple):
                yield list(part)
                yield part + (None,)
                for index in range(len(part)):
                    for other in spoilt(part[index]):
                        yield part[:index] + (other,) + part[index + 1:]
            elif isinstance(part, str):
                yield part.upper()
                yield part + "."
                yield None
            else:
                yield bool(part)
                yield -1 - part
                yield part + 997
                yield [part]
        for program in (P, (TAKE, ("tell", ("table", "x", ((0, 1), (1, 2))), (1,)), ("tell", ("power", "x", 3), (2,)))):
            self.is_true(is_program(program))
            for other in spoilt(program):
                self.is_false(is_program(other), other)


class FitTest(Case):

    def test_fit(self):
        def with_table(*places):
            return (TAKE, ("tell", ("plus", 1, ("table", "x", tuple((k, 3) for k in places))), (1,)))
        for places, field, right in (
                ((1, 6), 5, False), ((1, 6), 7, True), ((1, 12), 5, True), ((1, 12), 11, False), ((1, 12), 7, True),
                ((0, 996), 997, True), ((0, 995), 5, False), ((0, 1, 2, 3, 4), 5, True), ((0, 1, 2, 3, 4, 5), 5, False),
                ((7,), 5, True), (range(12), 11, False), (range(12), 13, True), (range(11), 11, True)):
            self.same(right, is_fit, field, with_table(*places))
        self.is_true(is_fit(5, P))

    def test_each_table_counts(self):
        wrong = ("table", "x", ((0, 1), (5, 1)))
        for rows in (
                (("let", "y", wrong), TELL), (("repeat", 1, (LET, ("let", "y", wrong))), TELL),
                (("repeat", 0, (("let", "y", wrong),)), TELL), (("tell", ("choose", 1, 1, wrong), (1,)),), (
                    ("tell", ("table", wrong, ((0, 1),)), (1,)),), (TELL, ("tell", ("power", wrong, 0), (1,)))):
            self.is_false(is_fit(5, (TAKE,) + rows), rows)
            self.is_true(is_fit(7, (TAKE,) + rows), rows)
            self.raises(Refused, ("places",), run_program, 5, (TAKE,) + rows, (1,))

    def test_many(self):
        told = random.Random(1)
        found = set()
        for _ in range(200):
            program = random_program(told, 2, 5)
            for field in (5, 7, 11):
                right = fit_by(field, program)
                self.same(right, is_fit, field, program)
                found.add(right)
        self.assertEqual(found, {True, False})


class RunTest(Case):

    def test_each_word(self):
        for part in EXPRESSIONS[:-1] + (deep(4), deep(5), deep(6)):
            for field in (5, 7, 13):
                program = (TAKE, ("tell", part, (1,)))
                for x in range(field):
                    if fit_by(field, program):
                        self.same((value_by(field, part, {"x": x}),), run_program, field, program, (x,))

    def test_two_values(self):
        for x, y in all_rows(5, 2):
            for word, right in (("plus", (x + y) % 5), ("minus", (x - y) % 5), ("times", x * y % 5),
                                ("equal", 1 if x == y else 0)):
                program = (TAKE, ("take", "y", 2), ("tell", (word, "x", "y"), (1, 2)))
                self.assertEqual(run_program(5, program, (x, y)), (right,))
            program = (TAKE, ("take", "y", 2), ("tell", ("choose", "x", "y", 3), (1,)))
            self.assertEqual(run_program(5, program, (x, y)), ((x * y + (1 - x) * 3) % 5,))

    def test_choose_beyond_one(self):
        program = (TAKE, ("tell", ("choose", "x", 2, 4), (1,)))
        self.assertEqual([run_program(5, program, (x,)) for x in range(5)], [(4,), (2,), (0,), (3,), (1,)])

    def test_integers_count_modulo(self):
        program = (TAKE, ("tell", 996, (1,)), ("tell", ("equal", "x", 500), (1,)), ("tell", ("times", 7, "x"), (2,)))
        self.assertEqual([run_program(p, program, (3,)) for p in (5, 7, 997)], [(1, 0, 1), (2, 1, 0), (996, 0, 21)])

    def test_names_change(self):
        program = (TAKE, ("tell", "x", (1,)), ("let", "x", ("plus", "x", "x")), ("tell", "x", (1,)), ("take", "x", 2),
                   ("tell", "x", (3,)), ("repeat", 3, (("let", "y", ("plus", "x", 1)), ("let", "x", "y"))),
                   ("tell", ("minus", "x", "y"), (1,)), ("tell", "x", (1,)))
        self.assertEqual(run_program(11, program, (3, 7)), (3, 6, 7, 0, 10))

    def test_repeated_no_time(self):
        program = (TAKE, ("repeat", 0, (("let", "y", 4), ("let", "x", 2), ("let", "y", "y"))), ("tell", "y", (1,)),
                   ("tell", "x", (1,)), ("let", "y", 5), ("repeat", 0, (("let", "y", 6),)), ("tell", "y", (1,)))
        self.assertEqual([run_program(7, program, (x,)) for x in (0, 3)], [(0, 0, 5), (0, 3, 5)])

    def test_many(self):
        told = random.Random(2)
        for index in range(250):
            program = random_program(told, index % 3, 5)
            self.is_true(is_program(program), program)
            self.assertEqual(houses_of(program), tuple(row[2] for row in program if row[0] == "take"))
            if fit_by(5, program):
                for numbers in all_rows(5, index % 3):
                    self.assertEqual(run_program(5, program, numbers), told_by(5, program, numbers), program)
            for field in (7, 11, 997):
                numbers = tuple(told.randrange(field) for _ in range(index % 3))
                if fit_by(field, program):
                    self.same(told_by(field, program, numbers), run_program, field, program, numbers)
                else:
                    self.raises(Refused, ("places",), run_program, field, program, numbers)

    def test_no_takes(self):
        self.assertEqual(run_program(5, (("tell", 3, (1,)), ("tell", 996, (2,))), ()), (3, 1))
        self.assertEqual(houses_of((("tell", 3, (1,)),)), ())


class StraightTest(Case):

    def test_names(self):
        rows = (("take", "q", 4), ("repeat", 12, (("let", "s", "q"), ("let", "q", ("plus", "s", 1)))),
                ("repeat", 3, (("let", "r", "q"), ("let", "q", "r"))), ("let", "s", "s"), ("tell", "q", (1,)))
        found = straight(rows)
        letters = "abcdefghijklmnopqrstuvwxyz"
        self.assertEqual([row[1] for row in found[:-1]], list(letters) + ["a" + letter for letter in letters[:6]])
        self.assertEqual(found[0], ("take", "a", 4))
        self.assertEqual(found[1], ("let", "b", "a"))
        self.assertEqual(found[2], ("let", "c", ("plus", "b", 1)))
        self.assertEqual(found[-3:], (("let", "ae", "ad"), ("let", "af", "x"), ("tell", "ae", (1,))))

    def test_sequence(self):
        program = (("tell", 1, (2,)), ("take", "z", 3), ("tell", ("table", "z", ((0, 5), (1, 7))), (1, 2)),
                   ("let", "z", ("power", "z", 7)), ("take", "y", 1), ("tell", ("choose", "z", "y", 996), (9,)))
        self.same((("tell", 1, (2,)), ("take", "a", 3), ("tell", ("table", "a", ((0, 5), (1, 7))), (1, 2)),
                   ("let", "b", ("power", "a", 7)), ("take", "c", 1), ("tell", ("choose", "b", "c", 996), (9,))),
                  straight, program)

    def test_zeros(self):
        program = (TAKE, ("repeat", 0, (("let", "y", ("plus", "x", 1)), ("let", "x", "y"))), ("let", "v", "y"),
                   ("tell", ("times", "x", "y"), (1,)), ("let", "y", ("minus", 3, "y")), ("tell", "y", (2,)))
        self.same((("take", "a", 1), ("let", "b", 0), ("tell", ("times", "a", 0), (1,)),
                   ("let", "c", ("minus", 3, 0)), ("tell", "c", (2,))), straight, program)

    def test_forty(self):
        rows = (TAKE, ("repeat", 7, (LET,) * 5))
        self.assertEqual(len(straight(rows + (LET,) * 3 + (TELL,))), 40)
        self.raises(TooMany, 40, straight, rows + (LET,) * 4 + (TELL,))
        self.raises(TooMany, 40, straight, rows + (LET,) * 3 + (TELL,) * 2)
        self.raises(TooMany, 40, straight, (TAKE, ("repeat", 12, (LET,) * 8), ("repeat", 12, (LET,) * 8), TELL))
        self.assertEqual(len(straight(rows + (("repeat", 0, (LET,) * 8),) * 9 + (LET,) * 3 + (TELL,))), 40)
        self.assertEqual(len(straight((TAKE,) + (LET,) * 38 + (TELL,))), 40)

    def test_same_for_all_fields(self):
        told = random.Random(3)
        many = 0
        for index in range(250):
            program = random_program(told, index % 3, 5)
            try:
                found = straight(program)
            except TooMany:
                continue
            many += 1
            self.is_true(is_program(found), found)
            self.assertEqual([row for row in found if row[0] == "repeat"], [])
            names = [row[1] for row in found if row[0] in ("take", "let")]
            self.assertEqual(len(names), len(set(names)))
            self.assertEqual(houses_of(found), houses_of(program))
            self.assertEqual([row[2] for row in found if row[0] == "tell"],
                             [row[2] for row in program if row[0] == "tell"])
            self.assertEqual(straight(found), found)
            for field in (5, 7, 11, 997):
                if fit_by(field, program):
                    for numbers in all_rows(5, index % 3)[::1 if field == 5 else 7]:
                        self.assertEqual(run_program(field, found, numbers), run_program(field, program, numbers))
        self.assertGreater(many, 200)


class RefusalsTest(Case):

    def test_programs(self):
        wrong = (InvalidProgram, WRONG_PROGRAMS)
        self.refuses(is_fit, (7, P), (FIELD, wrong))
        self.refuses(houses_of, (P,), (wrong,))
        self.refuses(straight, (P,), (wrong,), [(TooMany, 40, ((TAKE, ("repeat", 12, (LET,) * 8), TELL),))])

    def test_runs(self):
        unfit = (TAKE, ("take", "y", 1), ("tell", ("table", "x", ((1, 0), (8, 0))), (1,)))
        self.refuses(run_program, (7, P, (1, 2)), (FIELD, (InvalidProgram, WRONG_PROGRAMS), NUMBERS),
                     [(Refused, ("places",), (7, unfit, (1, 2)))])
        self.assertEqual(run_program(11, unfit, (1, 2)), (0,))
        self.raises(InvalidInputs, None, run_program, 5, P, (1, 5))
        self.assertEqual(run_program(7, P, (1, 5)), (1,))
