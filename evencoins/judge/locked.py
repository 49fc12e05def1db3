"""Where no coins help: two houses alone, bits among half of the houses, and lots that cover."""

from evencoins.base.field import are_numbers, check_field, check_integer, check_number, is_ascending, is_integer
from evencoins.base.field import rows_count
from evencoins.errors import InvalidCoins, InvalidLot, InvalidOperation, InvalidTable, Refused
from evencoins.judge.parts import all_lines, is_locked_paper, is_tree_of, is_whole, tree_or_part, turned

MAX_LINES = 12
MAX_ENTRY = 60
MAX_LOTS = 12
MOST_HOUSES = 9
LEAST_BITS = 2
MOST_BITS = 6


def check_square(square):
    """Refuse what is no square."""
    if not is_whole(square):
        raise InvalidTable("not a square")


def is_tree(square, value):
    """Whether the value is a tree of a square."""
    rows, columns = all_lines(square)
    return is_tree_of(square, turned(square), rows, columns, value)


def tree_or_locked(square):
    """Either a tree of the square, or a locked part."""
    check_square(square)
    rows, columns = all_lines(square)
    tree, locked = tree_or_part(square, turned(square), rows, columns)
    return ("tree", tree) if locked is None else locked


def is_tree_paper(square, value):
    """Whether the value is a tree, or a locked part, with its word."""
    check_square(square)
    if not isinstance(value, tuple):
        return False
    if len(value) == 2 and value[0] == "tree":
        return is_tree(square, value[1])
    if len(value) != 5 or value[0] != "locked":
        return False
    rows, columns, links, others = value[1:]
    return is_locked_paper(square, rows, columns, links, others)


def talk_along(square, tree, row, column):
    """The indices of the told classes, and the entry that they come to."""
    check_square(square)
    if not is_tree(square, tree):
        raise InvalidOperation("not a tree of the square")
    check_integer(row, 0, len(square) - 1)
    check_integer(column, 0, len(square[0]) - 1)
    told = []
    node = tree
    while node[0] != "flat":
        word, classes, trees = node
        line = row if word == "rows" else column
        index = [line in held for held in classes].index(True)
        told.append(index)
        node = trees[index]
    return tuple(told), node[1]


def bit_count(bits):
    """How many bits the rows have for which these are told, or 0 if there is no such number."""
    for many in range(LEAST_BITS, MOST_BITS + 1):
        if len(bits) == rows_count(2, many):
            return many
    return 0


def check_bits(bits):
    """Refuse what has not a bit for each row of 2 to 6 bits."""
    if not are_numbers(2, bits) or bit_count(bits) == 0:
        raise InvalidTable("not a bit for each row of bits")


def bit_rows(many):
    """The ascending list of all rows of so many bits."""
    rows = [()]
    for _ in range(many):
        rows = [row + (bit,) for row in rows for bit in (0, 1)]
    return rows


def with_bits(row, houses):
    """The row with 1 for these houses, too."""
    return tuple([1 if place + 1 in houses else bit for place, bit in enumerate(row)])


def is_sum(table, first, houses):
    """Whether a function, by rows, is a first bit and the bits of these houses."""
    return all([(first + sum([row[house - 1] for house in houses])) % 2 == bit for row, bit in table.items()])


def is_odd_square(table, one, other, row):
    """Whether the sum of four bits is odd: two houses have both bits each, the others those of the row."""
    rows = [with_bits(row, houses) for houses in ((), (one,), (other,), (one, other))]
    return sum([table[each] for each in rows]) % 2 == 1


def squares_of(many):
    """The list of all pairs of houses with a row that has 0 for both."""
    return [(one, other, row) for one in range(1, many + 1) for other in range(one + 1, many + 1)
            for row in bit_rows(many) if row[one - 1] == 0 and row[other - 1] == 0]


def sum_or_square(bits):
    """Either a bit and the houses whose bits are summed, or two houses and a row that show that it is no sum."""
    check_bits(bits)
    many = bit_count(bits)
    table = dict(zip(bit_rows(many), bits))
    zeros = (0,) * many
    houses = tuple([house for house in range(1, many + 1) if table[with_bits(zeros, (house,))] != bits[0]])
    if is_sum(table, bits[0], houses):
        return "sum", bits[0], houses
    one, other, row = [found for found in squares_of(many) if is_odd_square(table, found[0], found[1], found[2])][0]
    return "square", one, other, row


def is_sum_paper(bits, value):
    """Whether the value shows that the bits are a sum, or that they are not."""
    check_bits(bits)
    many = bit_count(bits)
    table = dict(zip(bit_rows(many), bits))
    if not isinstance(value, tuple) or not 3 <= len(value) <= 4:
        return False
    if len(value) == 3:
        word, first, houses = value
        if word != "sum" or not is_integer(first, 0, 1) or not is_ascending(houses, 1, many):
            return False
        return is_sum(table, first, houses)
    word, one, other, row = value
    if word != "square" or not is_ascending((one, other), 1, many) or not are_numbers(2, row) or len(row) != many:
        return False
    return row[one - 1] == 0 and row[other - 1] == 0 and is_odd_square(table, one, other, row)


def check_family(houses, family):
    """Refuse what is no number of houses with a tuple of unlike lots."""
    check_integer(houses, 1, MOST_HOUSES)
    if not isinstance(family, tuple) or not 1 <= len(family) <= MAX_LOTS:
        raise InvalidLot("not a family")
    if not all([is_ascending(lot, 1, houses) for lot in family]) or len(set(family)) < len(family):
        raise InvalidLot("not unlike lots")


def index_pairs(family):
    """All pairs of indices, ascending, the first one at most the second one."""
    return [(one, other) for one in range(len(family)) for other in range(one, len(family))]


def outside(houses, family, pair):
    """The houses out of both lots of a pair."""
    return [house for house in range(1, houses + 1) if house not in family[pair[0]] and house not in family[pair[1]]]


def covering(houses, family):
    """The least pair of lots that have all houses together, or None."""
    found = [pair for pair in index_pairs(family) if not outside(houses, family, pair)]
    return found[0] if found else None


def check_cover(houses, family):
    """Refuse a family with lots that cover."""
    pair = covering(houses, family)
    if pair is not None:
        raise Refused(("cover", pair))


def two_that_cover(houses, family):
    """The least pair of indices of lots that have all houses together, or None."""
    check_family(houses, family)
    return covering(houses, family)


def holders(houses, family):
    """For each pair of lots the least house out of both."""
    check_family(houses, family)
    check_cover(houses, family)
    return tuple([outside(houses, family, pair)[0] for pair in index_pairs(family)])


def split(field, houses, family, number, coins):
    """The parts of a number, one for each lot."""
    check_field(field)
    check_family(houses, family)
    check_number(field, number)
    if not are_numbers(field, coins) or len(coins) != len(family) - 1:
        raise InvalidCoins("not a coin for each lot but the last one")
    check_cover(houses, family)
    return coins + ((number - sum(coins)) % field,)
