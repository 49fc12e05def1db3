"""Stage 3: tables."""

import random

from evencoins.base.tables import (
    heads, is_shift_paper, is_solved_paper, is_table, kernel, rank, reduced, shift_or_row, solutions, solutions_count,
    solved_or_barred, table_product, times_vector, transposed, vector_times,
)
from evencoins.errors import InvalidNumber, InvalidOperation, InvalidTable, TooMany
from tests.helper import ODD, WRONG_FIELDS, Case, all_rows, dot, wrong_rows

FIELD = (InvalidNumber, WRONG_FIELDS)
VECTOR = (InvalidTable, wrong_rows(7, 2) + ((1,) * 61,))
TABLE = (InvalidTable, (
    (), ((),), ((), ()), ((1,), ()), ((), (1,)), ((1, 2), (3,)), ((1,), (2, 3)), [(1, 2)], ([1, 2],), ((1, 2), [3, 4]),
    ((1, 7),), ((1, -1),), ((True, 1),), ((1, 0), (False, 1)), ((1, None),), (1, 2), (None,), None, "12", ("12",), 1,
    True, {}, {0: (1, 2)}, ({0: 1},), ((1,),) * 61, ((1,) * 61,), ((1,) * 61,) * 61, ((10 ** 60,),), (((1,),),),
))
A = ((1, 2, 0), (2, 4, 1), (3, 1, 1))


def tables(field, rows, columns):
    """All tables of a size."""
    for numbers in all_rows(field, rows * columns):
        yield tuple(numbers[k * columns:(k + 1) * columns] for k in range(rows))


def some_tables(field, rows, columns, many):
    """So many tables of a size, some of them with rows that hang on others."""
    told = random.Random(f"{field} {rows} {columns}")
    for index in range(many):
        table = [tuple(told.randrange(field) for _ in range(columns)) for _ in range(rows)]
        if index % 2 and rows > 1:
            factor = told.randrange(field)
            table[told.randrange(1, rows)] = tuple(x * factor % field for x in table[0])
        if index % 3 == 0:
            column = told.randrange(columns)
            table = [row[:column] + (0,) + row[column + 1:] for row in table]
        yield tuple(table)


def sums(field, table):
    """The set of all sums of multiples of the rows."""
    return set(made(field, row, table) for row in all_rows(field, len(table)))


def made(field, row, table):
    """The sum of the rows of the table, each times its number in the row."""
    return tuple(sum(x * line[k] for x, line in zip(row, table)) % field for k in range(len(table[0])))


def image(field, table, vector):
    """The weighted sums of the rows with the vector."""
    return tuple(dot(field, row, vector) for row in table)


class ExamplesTest(Case):

    def test_examples(self):
        self.assertEqual([rank(5, A), reduced(5, A), kernel(5, A), heads(5, A)],
                         [2, ((1, 2, 0), (0, 0, 1)), ((3, 1, 0),), (0, 2)])
        self.assertEqual(
            [solved_or_barred(5, A, (1, 0, 1)), solutions_count(5, A, (1, 0, 1)), solutions_count(5, A, (1, 0, 0)),
             is_solved_paper(5, A, (1, 0, 0), ("barred", (1, 1, 4)))],
            [("solved", (1, 0, 3)), 5, 0, True])
        self.assertEqual(
            [shift_or_row(5, ((1,), (0,)), ((1,), (1,)), (2,), (3,))[0],
             shift_or_row(5, ((1,),), ((1,),), (2,), (3,))],
            ["row", ("shift", (4,))])


class TablesTest(Case):

    def test_is_table(self):
        for right in (((0,),), A, ((4, 0),) * 60, ((0,) * 60,), ((1,) * 60,) * 60):
            self.is_true(is_table(5, right))
        for wrong in TABLE[1]:
            self.is_false(is_table(7, wrong))
        self.is_false(is_table(5, ((1, 5),)))
        self.judges(is_table, (7,))

    def test_transposed(self):
        for table in some_tables(7, 3, 2, 20):
            self.assertEqual(transposed(7, table), tuple(zip(*table)))
            self.assertEqual(transposed(7, transposed(7, table)), table)
        wide = tuple(tuple((k * m) % 7 for m in range(60)) for k in range(2))
        self.assertEqual(transposed(7, wide), tuple(zip(*wide)))
        self.assertEqual(transposed(7, ((3,),)), ((3,),))

    def test_products(self):
        for one, other in zip(some_tables(7, 2, 3, 30), some_tables(7, 3, 4, 30)):
            self.assertEqual(table_product(7, one, other), tuple(made(7, row, other) for row in one))
        for table in some_tables(5, 3, 2, 10):
            for vector in all_rows(5, 2):
                self.assertEqual(times_vector(5, table, vector), image(5, table, vector))
            for vector in all_rows(5, 3):
                self.assertEqual(vector_times(5, vector, table), made(5, vector, table))
                self.assertEqual(times_vector(5, (vector,), (1, 2, 3)), (dot(5, vector, (1, 2, 3)),))
                self.assertEqual(vector_times(5, vector[:1], (vector,)), made(5, vector[:1], (vector,)))
        self.assertEqual(table_product(997, ((996,) * 60,), ((996,),) * 60), ((60,),))
        self.assertEqual(table_product(5, ((2,), (3,)), ((1, 4),)), ((2, 3), (3, 2)))

    def is_reduced(self, table):
        columns = []
        for row in table:
            columns.append([k for k, x in enumerate(row) if x][0])
            self.assertEqual([line[columns[-1]] for line in table if line[columns[-1]]], [1])
        self.assertEqual(sorted(set(columns)), columns)
        return tuple(columns)

    def test_reduced(self):
        for table in list(tables(5, 2, 2)) + list(some_tables(5, 3, 3, 60)) + list(some_tables(7, 2, 4, 30)):
            field = 5 if len(table[0]) < 4 else 7
            found = reduced(field, table)
            self.assertEqual(self.is_reduced(found), heads(field, table))
            self.assertEqual(rank(field, table), len(found))
            self.assertEqual(sums(field, table), sums(field, found) if found else {(0,) * len(table[0])})
            self.assertEqual(len(sums(field, table)), field ** rank(field, table))

    def test_reduced_is_one(self):
        for table in some_tables(5, 3, 4, 40):
            other = (table[2], tuple(3 * x % 5 for x in table[0]),
                     tuple((x + 2 * y) % 5 for x, y in zip(table[1], table[2])), (0,) * 4)
            self.assertEqual(reduced(5, other), reduced(5, table))

    def test_reduced_edges(self):
        self.assertEqual([reduced(5, ((0, 0), (0, 0))), rank(5, ((0, 0),)), heads(5, ((0, 0),))], [(), 0, ()])
        self.assertEqual([reduced(5, ((0, 3),)), rank(5, ((2,), (3,))), heads(5, ((0, 3),))], [((0, 1),), 1, (1,)])
        unit = tuple(tuple(1 if k == m else 0 for m in range(60)) for k in range(60))
        self.assertEqual(reduced(997, tuple(tuple(5 * x for x in row) for row in unit[::-1])), unit)
        self.assertEqual([rank(997, unit), heads(997, unit), kernel(997, unit)], [60, tuple(range(60)), ()])

    def test_kernel(self):
        for table in list(tables(5, 2, 2)) + list(some_tables(5, 2, 4, 40)) + list(some_tables(5, 3, 3, 40)):
            width = len(table[0])
            free = [k for k in range(width) if k not in heads(5, table)]
            found = kernel(5, table)
            self.assertEqual([[row[k] for k in free] for row in found],
                             [[1 if k == m else 0 for k in free] for m in free])
            for row in found:
                self.assertEqual(image(5, table, row), (0,) * len(table))
                self.is_true(is_table(5, (row,)))
        self.assertEqual(kernel(5, ((0, 0),)), ((1, 0), (0, 1)))
        self.assertEqual(kernel(997, ((0,) * 59 + (3,),)),
                         tuple(tuple(1 if k == m else 0 for m in range(60)) for k in range(59)))

    def test_kernel_makes_all(self):
        for table in some_tables(5, 2, 3, 20):
            right = set(x for x in all_rows(5, 3) if not any(image(5, table, x)))
            found = kernel(5, table)
            self.assertEqual(sums(5, found) if found else {(0, 0, 0)}, right)


class SolvedTest(Case):

    def is_solution(self, field, table, vector, paper):
        word, numbers = paper
        if word == "solved":
            self.assertEqual(image(field, table, numbers), vector)
            columns = heads(field, table)
            self.assertFalse(any(x for k, x in enumerate(numbers) if k not in columns))
        else:
            self.assertEqual((word, made(field, numbers, table)), ("barred", (0,) * len(table[0])))
            self.assertEqual(dot(field, numbers, vector), 1)
        self.is_true(is_solved_paper(field, table, vector, paper))

    def test_solved_or_barred(self):
        checked = list(tables(5, 2, 2))[::3] + list(some_tables(5, 2, 3, 20)) + list(some_tables(5, 3, 1, 10))
        for table in checked + list(some_tables(5, 3, 2, 10)):
            found = {}
            for x in all_rows(5, len(table[0])):
                found.setdefault(image(5, table, x), []).append(x)
            for vector in all_rows(5, len(table)):
                paper = solved_or_barred(5, table, vector)
                self.assertEqual(paper[0], "solved" if vector in found else "barred")
                self.is_solution(5, table, vector, paper)
                right = tuple(found.get(vector, ()))
                self.assertEqual(solutions(5, table, vector), right)
                self.assertEqual(solutions_count(5, table, vector), len(right))
                if right:
                    self.assertEqual(len(right), 5 ** (len(table[0]) - rank(5, table)))

    def test_every_paper(self):
        for table in list(some_tables(5, 2, 2, 12)) + list(some_tables(5, 1, 2, 6)) + list(some_tables(5, 2, 1, 6)):
            for vector in all_rows(5, len(table)):
                for row in all_rows(5, len(table[0])):
                    self.assertIs(is_solved_paper(5, table, vector, ("solved", row)), image(5, table, row) == vector)
                for row in all_rows(5, len(table)):
                    bars = not any(made(5, row, table)) and dot(5, row, vector) == 1
                    self.assertIs(is_solved_paper(5, table, vector, ("barred", row)), bars)

    def test_nothing_else(self):
        self.accepts(is_solved_paper, (5, A, (1, 0, 1)), ("solved", (1, 0, 3)))
        self.accepts(is_solved_paper, (5, A, (1, 0, 1)), ("solved", (4, 1, 3)))
        self.accepts(is_solved_paper, (5, A, (1, 0, 0)), ("barred", (1, 1, 4)))
        self.accepts(is_solved_paper, (5, ((0,),), (0,)), ("solved", (0,)))
        for table, vector in ((A, (1, 0, 1)), (A, (1, 0, 0))):
            self.judges(is_solved_paper, (5, table, vector))
        self.is_false(is_solved_paper(5, A, (1, 0, 0), ("barred", (2, 2, 3))))
        self.is_false(is_solved_paper(5, A, (0, 0, 0), ("barred", (0, 0, 0))))
        self.is_false(is_solved_paper(5, ((1, 0),), (1,), ("barred", (1, 0))))
        self.is_false(is_solved_paper(5, ((1, 0),), (1,), ("solved", (1,))))
        self.is_false(is_solved_paper(5, ((1, 0),), (1,), ("solved", (1, 0, 0))))
        self.is_false(is_solved_paper(5, ((0,), (0,)), (1, 0), ("barred", (1,))))

    def test_great_systems(self):
        told = random.Random(60)
        for field in (5, 997):
            table = tuple(tuple(told.randrange(field) for _ in range(60)) for _ in range(59))
            table += (tuple((x + y) % field for x, y in zip(table[0], table[1])),)
            vector = tuple(told.randrange(field) for _ in range(59))
            right = vector + ((vector[0] + vector[1]) % field,)
            wrong = vector + ((vector[0] + vector[1] + 1) % field,)
            self.assertEqual(solved_or_barred(field, table, right)[0], "solved")
            self.is_solution(field, table, right, solved_or_barred(field, table, right))
            self.is_solution(field, table, wrong, solved_or_barred(field, table, wrong))
            self.assertEqual(solved_or_barred(field, table, wrong)[0], "barred")
            self.assertEqual(solutions_count(field, table, right), field ** (60 - rank(field, table)))
            self.assertEqual([solutions_count(field, table, wrong), solutions(field, table, wrong)], [0, ()])

    def test_most_listed(self):
        self.assertEqual(solutions(313, ((0, 2, 0), (1, 0, 0)), (6, 5)), tuple((5, 3, x) for x in range(313)))
        self.assertEqual(len(solutions(313, ((0, 2, 0),), (6,))), 313 ** 2)
        self.assertEqual(solutions(313, ((0, 2, 0),), (6,))[:2], ((0, 3, 0), (0, 3, 1)))
        self.assertEqual(len(solutions(5, ((1, 1, 2, 3, 1, 0, 1, 4),), (2,))), 5 ** 7)
        wide = ((0,) * 59 + (1,),)
        for field, table, vector in ((317, ((0, 2, 0),), (6,)), (5, ((0,) * 8,), (0,)), (7, ((0,) * 6,), (0,))):
            self.raises(TooMany, 100000, solutions, field, table, vector)
            self.assertEqual(solutions_count(field, table, vector), field ** (len(table[0]) - rank(field, table)))
        self.assertEqual(solutions(5, ((0,) * 60,), (1,)), ())
        self.assertEqual(solutions_count(997, wide, (3,)), 997 ** 59)


class ShiftTest(Case):

    def test_shift_or_row(self):
        for table, other in zip(some_tables(5, 2, 2, 40), list(some_tables(5, 2, 1, 20)) + [((0,), (0,))] * 20):
            reached = set(image(5, other, coins) for coins in all_rows(5, 1))
            for one, two in (((0, 0), (1, 2)), ((3, 4), (2, 1)), ((1, 1), (1, 1)), ((0, 3), (4, 3))):
                goal = image(5, table, tuple((x - y) % 5 for x, y in zip(one, two)))
                word, numbers = shift_or_row(5, table, other, one, two)
                self.assertEqual(word, "shift" if goal in reached else "row")
                self.is_true(is_shift_paper(5, table, other, one, two, (word, numbers)))
                for coins in all_rows(5, 1):
                    self.assertIs(is_shift_paper(5, table, other, one, two, ("shift", coins)),
                                  image(5, other, coins) == goal)
                for row in all_rows(5, 2):
                    parts = not any(made(5, row, other)) and dot(5, row, goal) != 0
                    self.assertIs(is_shift_paper(5, table, other, one, two, ("row", row)), parts)

    def test_exchange(self):
        table, other = ((1, 2), (3, 0), (0, 1)), ((1, 0, 2), (0, 1, 1), (1, 1, 3))
        one, two = (1, 2), (3, 1)
        word, shift = shift_or_row(5, table, other, one, two)
        self.assertEqual(word, "row")
        table = ((1, 2), (3, 0), (4, 2))
        word, shift = shift_or_row(5, table, other, one, two)
        self.assertEqual(word, "shift")
        for coins in all_rows(5, 3):
            more = tuple((x + y) % 5 for x, y in zip(coins, shift))
            told = [[(x + y) % 5 for x, y in zip(image(5, table, secret), image(5, other, row))]
                    for secret, row in ((one, coins), (two, more))]
            self.assertEqual(told[0], told[1])

    def test_nothing_else(self):
        arguments = (5, ((1,), (0,)), ((1,), (1,)), (2,), (3,))
        for row in ((1, 4), (4, 1), (2, 3), (3, 2)):
            self.accepts(is_shift_paper, arguments, ("row", row))
        self.judges(is_shift_paper, arguments)
        self.accepts(is_shift_paper, (5, ((1,),), ((1,),), (2,), (3,)), ("shift", (4,)))
        self.accepts(is_shift_paper, (5, ((1, 0),), ((0, 1),), (2, 4), (3, 0)), ("shift", (3, 4)))
        self.judges(is_shift_paper, (5, ((1,),), ((1,),), (2,), (3,)))
        self.is_false(is_shift_paper(5, *arguments[1:], ("barred", (1, 4))))
        self.is_false(is_shift_paper(5, ((1,),), ((1,),), (2,), (3,), ("solved", (4,))))
        self.is_false(is_shift_paper(5, ((1,), (0,)), ((1, 1), (1, 1)), (2,), (3,), ("row", (1,))))


class RefusalsTest(Case):

    def test_is_table_wants_a_field(self):
        for field in WRONG_FIELDS:
            for odd in ODD:
                self.raises(InvalidNumber, field, is_table, field, odd)

    def test_one_table(self):
        for function in (transposed, reduced, rank, heads, kernel):
            self.refuses(function, (7, A), (FIELD, TABLE))
            for side in (59, 60):
                function(7, ((1,) * side,) * 2)
                function(7, ((1,),) * side)
            self.raises(InvalidTable, None, function, 7, ((1,) * 61,))
            self.raises(InvalidTable, None, function, 7, ((1,),) * 61)

    def test_products(self):
        fits = InvalidOperation
        self.refuses(table_product, (7, A, A), (FIELD, TABLE, TABLE),
                     [(fits, None, (7, A, A[:2])), (fits, None, (7, A[:2], A[:2])), (fits, None, (7, A, ((1,),)))])
        self.refuses(times_vector, (7, A[:2], (1, 2, 3)), (FIELD, TABLE, VECTOR),
                     [(fits, None, (7, A[:2], (1, 2))), (fits, None, (7, A, ())), (fits, None, (7, A, (1,) * 60))])
        self.refuses(vector_times, (7, (1, 2), A[:2]), (FIELD, VECTOR, TABLE),
                     [(fits, None, (7, (1, 2, 3), A[:2])), (fits, None, (7, (), A)), (fits, None, (7, (1,) * 60, A))])
        self.assertEqual(table_product(7, A[:2], A), table_product(7, A, A)[:2])

    def test_systems(self):
        wrong = (FIELD, TABLE, VECTOR)
        then = [(InvalidOperation, None, (7, A[:2], (1, 2, 3))), (InvalidOperation, None, (7, A, ())),
                (InvalidOperation, None, (7, ((1,),), (1,) * 60))]
        for function in (solved_or_barred, solutions_count):
            self.refuses(function, (7, A, (1, 2, 3)), wrong, then)
        self.refuses(solutions, (7, A, (1, 2, 3)), wrong, then + [(TooMany, 100000, (7, ((0,) * 6,), (0,)))])
        self.raises(InvalidOperation, None, solutions, 7, ((0,) * 6,), (0, 0))
        self.refuses(lambda *three: is_solved_paper(*three, ("solved", (1, 2, 3))), (7, A, (1, 2, 3)), wrong, then)
        self.refuses(lambda *three: is_solved_paper(*three, None), (7, A, (1, 2, 3)), wrong, then)

    def test_shifts(self):
        wrong = (FIELD, TABLE, TABLE, VECTOR, VECTOR)
        good = (7, A[:2], ((1,), (2,)), (1, 2, 3), (4, 5, 6))
        then = [(InvalidOperation, None, arguments) for arguments in (
            (7, A, ((1,), (2,)), (1, 2, 3), (4, 5, 6)), (7, A[:2], ((1,), (2,)), (1, 2), (4, 5, 6)),
            (7, A[:2], ((1,), (2,)), (1, 2, 3), (4, 5)), (7, A[:2], ((1,), (2,)), (1, 2), (4, 5)),
            (7, A[:2], ((1,), (2,)), (), ()), (7, A[:2], ((1,),), (1, 2, 3), (4, 5, 6)))]
        self.refuses(shift_or_row, good, wrong, then)
        self.refuses(lambda *five: is_shift_paper(*five, ("shift", (1,))), good, wrong, then)
        self.refuses(lambda *five: is_shift_paper(*five, []), good, wrong, then)

    def test_not_true(self):
        self.assertEqual([solutions_count(5, A, (1, 0, 1)) > 0, solutions_count(5, A, (1, 0, 0))], [True, 0])
        self.assertEqual([rank(5, ((1, 0),)), rank(5, ((0, 1),))], [1, 1])
        self.assertEqual(shift_or_row(5, ((1,),), ((0, 0, 0),), (1,), (2,))[0], "row")
