"""Tables of numbers: reduced rows, what solves them, and what bars them."""

from evencoins.base.field import MAX_SIDE, MOST_LISTED, check_field, check_vector, inverse, is_vector
from evencoins.base.field import rows_count, sum_of_products
from evencoins.errors import InvalidOperation, InvalidTable, TooMany


def is_table(field, value):
    """Whether the value is a tuple of 1 to 60 equally long rows of numbers."""
    check_field(field)
    if not isinstance(value, tuple) or not 1 <= len(value) <= MAX_SIDE:
        return False
    if not all([is_vector(field, row) and row != () for row in value]):
        return False
    return all([len(row) == len(value[0]) for row in value])


def check_table(field, table):
    """Refuse what is no table."""
    if not is_table(field, table):
        raise InvalidTable("not a table")


def check_sizes(fit):
    """Refuse what does not fit."""
    if not fit:
        raise InvalidOperation("the sizes do not fit")


def columns_of(table):
    """The tuple of the columns."""
    return tuple([tuple([row[k] for row in table]) for k in range(len(table[0]))])


def all_sums(field, rows, vector):
    """The weighted sum of each row with the vector."""
    return tuple([sum_of_products(field, row, vector) for row in rows])


def transposed(field, table):
    """The table whose rows are the columns of this one."""
    check_field(field)
    check_table(field, table)
    return columns_of(table)


def table_product(field, table, other):
    """The table with the weighted sums of the rows of the one with the columns of the other."""
    check_field(field)
    check_table(field, table)
    check_table(field, other)
    check_sizes(len(table[0]) == len(other))
    columns = columns_of(other)
    return tuple([all_sums(field, columns, row) for row in table])


def times_vector(field, table, vector):
    """For each row its weighted sum with the vector."""
    check_field(field)
    check_table(field, table)
    check_vector(field, vector)
    check_sizes(len(table[0]) == len(vector))
    return all_sums(field, table, vector)


def vector_times(field, vector, table):
    """The sum of the rows, each times its number in the vector."""
    check_field(field)
    check_vector(field, vector)
    check_table(field, table)
    check_sizes(len(table) == len(vector))
    return all_sums(field, columns_of(table), vector)


def clear_column(field, rows, top, column):
    """Make a head of the number there, with only 0 above and below."""
    factor = inverse(field, rows[top][column])
    head = [factor * x % field for x in rows[top]]
    rows[top] = head
    for k in range(len(rows)):
        less = rows[k][column]
        if k != top and less != 0:
            rows[k] = [(x - less * y) % field for x, y in zip(rows[k], head)]


def eliminated(field, table, width):
    """The rows, reduced in the first columns, with those without a head last; the columns of the heads."""
    rows = [list(row) for row in table]
    found = []
    for column in range(width):
        top = len(found)
        here = [k for k in range(top, len(rows)) if rows[k][column] != 0]
        if here:
            rows[top], rows[here[0]] = rows[here[0]], rows[top]
            clear_column(field, rows, top, column)
            found.append(column)
    return rows, found


def reduced(field, table):
    """The tuple of the reduced rows that make the same sums."""
    check_field(field)
    check_table(field, table)
    rows, found = eliminated(field, table, len(table[0]))
    return tuple([tuple(row) for row in rows[:len(found)]])


def rank(field, table):
    """How many reduced rows there are."""
    return len(heads(field, table))


def heads(field, table):
    """The columns of the heads of the reduced rows."""
    check_field(field)
    check_table(field, table)
    rows, found = eliminated(field, table, len(table[0]))
    return tuple(found)


def kernel_rows(field, table):
    """The kernel of a table that is known to be one."""
    width = len(table[0])
    rows, found = eliminated(field, table, width)
    free = [k for k in range(width) if k not in found]
    return tuple([kernel_row(field, rows, found, width, column) for column in free])


def kernel_row(field, rows, found, width, column):
    """The vector with the sum 0 for each row, 1 at the column and 0 at all others without a head."""
    vector = [0] * width
    vector[column] = 1
    for k in range(len(found)):
        vector[found[k]] = -rows[k][column] % field
    return tuple(vector)


def kernel(field, table):
    """For each column without a head the vector with 1 there that the table makes 0."""
    check_field(field)
    check_table(field, table)
    return kernel_rows(field, table)


def check_system(field, table, vector):
    """Refuse what is no table with a number for each row."""
    check_field(field)
    check_table(field, table)
    check_vector(field, vector)
    check_sizes(len(table) == len(vector))


def with_origin(table, vector):
    """Each row with its number, and with 1 at its own place: sums of rows keep of which they are."""
    many = len(table)
    return [table[k] + (vector[k],) + (0,) * k + (1,) + (0,) * (many - k - 1) for k in range(many)]


def solution_or_bar(field, table, vector):
    """The paper for a table and a vector that are known to fit."""
    width = len(table[0])
    rows, found = eliminated(field, with_origin(table, vector), width)
    for row in rows[len(found):]:
        if row[width] != 0:
            factor = inverse(field, row[width])
            return "barred", tuple([factor * x % field for x in row[width + 1:]])
    solution = [0] * width
    for k in range(len(found)):
        solution[found[k]] = rows[k][width]
    return "solved", tuple(solution)


def solved_or_barred(field, table, vector):
    """Either a vector that the table makes this one, or a bar."""
    check_system(field, table, vector)
    return solution_or_bar(field, table, vector)


def is_word_with(field, value, word, many):
    """Whether the value is a pair of the word and of a tuple of so many numbers."""
    if not isinstance(value, tuple) or len(value) != 2 or value[0] != word:
        return False
    return is_vector(field, value[1]) and len(value[1]) == many


def is_bar(field, table, value):
    """Whether the value is a row of factors with which the rows of the table make 0."""
    return all([total == 0 for total in all_sums(field, columns_of(table), value)])


def is_solved_paper(field, table, vector, value):
    """Whether the value is a solution, or a bar, with its word."""
    check_system(field, table, vector)
    if is_word_with(field, value, "solved", len(table[0])):
        return all_sums(field, table, value[1]) == vector
    if is_word_with(field, value, "barred", len(table)):
        return is_bar(field, table, value[1]) and sum_of_products(field, value[1], vector) == 1
    return False


def solutions_count(field, table, vector):
    """How many vectors the table makes this one."""
    check_system(field, table, vector)
    if solution_or_bar(field, table, vector)[0] == "barred":
        return 0
    return rows_count(field, len(kernel_rows(field, table)))


def solutions(field, table, vector):
    """The ascending tuple of all vectors that the table makes this one."""
    check_system(field, table, vector)
    word, first = solution_or_bar(field, table, vector)
    if word == "barred":
        return ()
    basis = kernel_rows(field, table)
    if rows_count(field, len(basis)) > MOST_LISTED:
        raise TooMany(MOST_LISTED)
    found = [first]
    for row in basis:
        multiples = [[factor * x for x in row] for factor in range(field)]
        found = [[x + y for x, y in zip(one, more)] for one in found for more in multiples]
    return tuple(sorted([tuple([x % field for x in one]) for one in found]))


def check_talk(field, table, other, one, two):
    """Refuse what are no rows of secrets and of coins with two secrets."""
    check_field(field)
    check_table(field, table)
    check_table(field, other)
    check_vector(field, one)
    check_vector(field, two)
    check_sizes(len(table) == len(other) and len(one) == len(two) == len(table[0]))


def told_difference(field, table, one, two):
    """By how much what is told of the one secret is more than of the other."""
    return all_sums(field, table, tuple([(x - y) % field for x, y in zip(one, two)]))


def shift_or_row(field, table, other, one, two):
    """Either an exchange of the coins that hides which secret it is, or a row that parts both."""
    check_talk(field, table, other, one, two)
    word, vector = solution_or_bar(field, other, told_difference(field, table, one, two))
    return ("shift", vector) if word == "solved" else ("row", vector)


def is_shift_paper(field, table, other, one, two, value):
    """Whether the value is such an exchange, or such a row, with its word."""
    check_talk(field, table, other, one, two)
    difference = told_difference(field, table, one, two)
    if is_word_with(field, value, "shift", len(other[0])):
        return all_sums(field, other, value[1]) == difference
    if is_word_with(field, value, "row", len(other)):
        return is_bar(field, other, value[1]) and sum_of_products(field, value[1], difference) != 0
    return False
