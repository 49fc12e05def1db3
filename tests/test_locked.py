"""Stage 24: where no coins help."""

import random
from itertools import combinations, product

from evencoins.errors import (
    InvalidCoins, InvalidLot, InvalidNumber, InvalidOperation, InvalidTable, Refused,
)
from evencoins.judge.locked import (
    holders, is_sum_paper, is_tree_paper, split, sum_or_square, talk_along, tree_or_locked, two_that_cover,
)
from tests.helper import LONG, ODD, PRODUCT, SMALL, WRONG_FIELDS, Case, wrong_numbers, wrong_rows

TREE = ("rows", ((0,), (1,)), (("flat", 1), ("columns", ((0,), (1,)), (("flat", 2), ("flat", 3)))))
SQUARES = (InvalidTable, (
    None, True, 1, "", "12", (), [], {}, ((),), ((1,), ()), ((1, 2), (3,)), [(1, 2)], ((1, 2), [3, 4]), ((1, 61),), ((-1,),),
    ((True,),), ((None,),), (("1",),), ((LONG,),), (1, 2), ((1,) * 13,), ((1,),) * 13, (((1,),),), PRODUCT, {0: (1,)}, LONG))


def components(lines, links):
    """The classes of lines that hang together."""
    marks = {line: line for line in lines}
    for one, other in links:
        old = marks[one]
        marks = {line: marks[other] if mark == old else mark for line, mark in marks.items()}
    return sorted(sorted(line for line in lines if marks[line] == mark) for mark in set(marks.values()))


def row_links(square, rows, columns):
    """All links of two rows of a part."""
    return [(one, other, column) for one in rows for other in rows for column in columns
            if square[one][column] == square[other][column]]


def transposed(square):
    return tuple(zip(*square))


def is_locked(square, rows, columns):
    """Whether a part is locked."""
    if len(set(square[row][column] for row in rows for column in columns)) == 1:
        return False
    one = components(rows, [link[:2] for link in row_links(square, rows, columns)])
    two = components(columns, [link[:2] for link in row_links(transposed(square), columns, rows)])
    return len(one) == len(two) == 1


def parts_of(many):
    return [rows for size in range(1, many + 1) for rows in combinations(range(many), size)]


def has_locked(square):
    """Whether some part of a square is locked."""
    return any(is_locked(square, rows, columns) for rows in parts_of(len(square)) for columns in parts_of(len(square[0])))


def is_tree_by(square, rows, columns, tree):
    """Whether a tree is one of a part, by its words."""
    if tree[0] == "flat":
        return all(square[row][column] == tree[1] for row in rows for column in columns)
    word, classes, trees = tree
    lines, others, table = (rows, columns, square) if word == "rows" else (columns, rows, transposed(square))
    if sorted(sum(classes, ())) != sorted(lines) or len(classes) < 2 or len(classes) != len(trees):
        return False
    for one, other in combinations(classes, 2):
        if any(table[i][k] == table[j][k] for i in one for j in other for k in others):
            return False
    if word == "rows":
        return all(is_tree_by(square, each, columns, part) for each, part in zip(classes, trees))
    return all(is_tree_by(square, rows, each, part) for each, part in zip(classes, trees))


class ExamplesTest(Case):

    def test_examples(self):
        self.assertEqual([tree_or_locked(((1, 1), (2, 3)))[0], is_tree_paper(
            ((0, 0), (0, 1)), ("locked", (0, 1), (0, 1), ((0, 1, 0),), ((0, 1, 0),)))], ["tree", True])
        self.assertEqual(talk_along(((1, 1), (2, 3)), TREE, 1, 0), ((1, 0), 2))
        self.assertEqual([sum_or_square((1, 0, 0, 1)), is_sum_paper((0, 0, 0, 1), ("square", 1, 2, (0, 0))),
                          holders(3, ((1,), (2,), (3,)))], [("sum", 1, (1, 2)), True, (2, 3, 2, 1, 1, 1)])
        self.assertEqual([two_that_cover(3, ((1,), (2, 3))), split(7, 3, ((1,), (2,), (3,)), 5, (1, 2))],
                         [(0, 1), (1, 2, 2)])


class TreeTest(Case):

    def is_right(self, square):
        """The paper is right, and of the right kind."""
        before = repr(square)
        paper = tree_or_locked(square)
        rows, columns = tuple(range(len(square))), tuple(range(len(square[0])))
        if paper[0] == "tree":
            self.assertTrue(is_tree_by(square, rows, columns, paper[1]))
        else:
            self.assertTrue(is_locked(square, paper[1], paper[2]))
        self.same(True, is_tree_paper, square, paper)
        self.assertEqual(repr(square), before)
        return paper

    def test_all_small_squares(self):
        found = {"tree": 0, "locked": 0}
        for height, width, most in ((1, 1, 3), (1, 4, 3), (4, 1, 3), (2, 2, 4), (2, 3, 3), (3, 2, 3), (3, 3, 2), (2, 4, 2)):
            for entries in product(range(most), repeat=height * width):
                square = tuple(entries[row * width:(row + 1) * width] for row in range(height))
                paper = self.is_right(square)
                found[paper[0]] += 1
                self.assertEqual(paper[0] == "locked", has_locked(square))
        self.assertGreater(min(found.values()), 300)

    def test_squares_of_three(self):
        told = random.Random(1)
        for _ in range(300):
            square = tuple(tuple(told.randrange(4) for _ in range(3)) for _ in range(3))
            self.assertEqual(self.is_right(square)[0] == "locked", has_locked(square))

    def test_great_squares(self):
        told = random.Random(2)
        self.assertEqual(self.is_right(tuple(tuple(row * 5 + 1 for _ in range(12)) for row in range(12)))[0], "tree")
        self.assertEqual(self.is_right(((7,) * 12,) * 12), ("tree", ("flat", 7)))
        self.assertEqual(self.is_right(tuple(tuple(min(row, column) for column in range(12)) for row in range(12)))[0], "locked")
        # Left and right by turns: a tree that is as deep as can be.
        def entry(row, column):
            return 2 * row if row <= column else 2 * column + 1
        deep = tuple(tuple(entry(row, column) for column in range(12)) for row in range(12))
        self.assertEqual(self.is_right(deep)[0], "tree")
        for _ in range(20):
            self.is_right(tuple(tuple(told.randrange(61) for _ in range(12)) for _ in range(12)))
        for _ in range(20):
            self.is_right(tuple(tuple(told.choice((60, row, 30 + column)) for column in range(9)) for row in range(12)))

    def test_papers_of_others(self):
        # A tree with classes that could be split at once, and with classes in another sequence.
        square = ((1, 1), (2, 2), (3, 3))
        for tree in (("rows", ((0,), (1,), (2,)), (("flat", 1), ("flat", 2), ("flat", 3))),
                     ("rows", ((2,), (0,), (1,)), (("flat", 3), ("flat", 1), ("flat", 2))),
                     ("rows", ((0, 2), (1,)), (("rows", ((0,), (2,)), (("flat", 1), ("flat", 3))), ("flat", 2)))):
            self.is_true(is_tree_paper(square, ("tree", tree)))
        for tree in (("rows", ((0,), (1,)), (("flat", 1), ("flat", 2))), ("rows", ((0, 1, 2),), (("flat", 1),)),
                     ("rows", ((0,), (1,), (2,)), (("flat", 1), ("flat", 2), ("flat", 2))), ("flat", 1),
                     ("rows", ((0,), (1,), (2,), ()), (("flat", 1), ("flat", 2), ("flat", 3), ("flat", 1))),
                     ("rows", ((0,), (1,), (2, 2)), (("flat", 1), ("flat", 2), ("flat", 3))),
                     ("rows", ((0, 1), (1, 2)), (("flat", 1), ("flat", 2))), ("columns", ((0,), (1,)), (("flat", 1), ("flat", 1))),
                     ("rows", ((0,), (2, 1)), (("flat", 1), ("rows", ((1,), (2,)), (("flat", 2), ("flat", 3))))),
                     ("rows", ((0,), (1,), (2,)), (("flat", True), ("flat", 2), ("flat", 3))),
                     ("rows", ((False,), (True,), (2,)), (("flat", 1), ("flat", 2), ("flat", 3)))):
            self.is_false(is_tree_paper(square, ("tree", tree)), tree)
        links = ((0, 1, 0),)
        part = ((0, 0, 5), (0, 1, 6))
        for paper, right in (
                (("locked", (0, 1), (0, 1), links, links), True), (("locked", (0, 1), (0, 1), links * 3, links), True),
                (("locked", (0, 1), (0, 1), ((1, 0, 0),), ((1, 0, 0),)), True),
                (("locked", (0, 1), (0, 1), ((0, 0, 1), (0, 1, 0), (1, 1, 1)), links), True),
                (("locked", (0, 1), (0, 1), (), links), False), (("locked", (0, 1), (0, 1), ((0, 0, 0),), links), False),
                (("locked", (0, 1), (0, 1), ((0, 1, 1),), links), False), (("locked", (0, 1), (0, 1, 2), links, links), False),
                (("locked", (0, 1), (0,), links, ()), False), (("locked", (0,), (0, 1), (), links), False),
                (("locked", (0,), (0,), (), ()), False), (("locked", (), (), (), ()), False),
                (("locked", (0, 1), (0, 1), ((0, 2, 0),), links), False), (("locked", (0, 1), (0, 1), ((0, 1, 2),), links), False),
                (("locked", (0, 1), (0, 1), ((2, 0, 0), (0, 1, 0)), links), False),
                (("locked", (0, 1), (0, 1), ((0, 1, 0, 0),), links), False), (("locked", (0, 1), (0, 1), ((0, 1),), links), False),
                (("locked", (0, 2), (0, 1), ((0, 2, 0),), links), False), (("locked", (0, 1), (), links, links), False),
                (("locked", (), (0, 1), links, links), False), (("locked", (1, 0), (0, 1), links, links), False), (("locked", (0, 1), (0, 3), links, links), False),
                (("locked", (False, True), (0, 1), links, links), False), (("locked", (0, 1), (0, 1), [(0, 1, 0)], links), False),
                (("locked", (0, 1), (0, 1), ((0, True, 0),), links), False), (("locked", (0, 1), (0, 1), links), False)):
            self.assertIs(is_tree_paper(part, paper), right, paper)

    def splits(self, lines):
        """All ways to split lines into two classes, or to leave them together."""
        for size in range(1, len(lines) + 1):
            for held in combinations(lines, size):
                others = tuple(line for line in lines if line not in held)
                yield (held, others) if others else (held,)

    def any_trees(self, square, rows, columns):
        """What looks like trees, with classes that may hang together."""
        yield "flat", square[rows[0]][columns[0]]
        for word, lines in (("rows", rows), ("columns", columns)):
            for classes in self.splits(lines):
                if len(classes) == 2:
                    parts = [list(self.any_trees(square, held, columns) if word == "rows" else
                                  self.any_trees(square, rows, held)) for held in classes]
                    for trees in product(*parts):
                        yield word, classes, trees

    def test_all_trees_of_small_squares(self):
        found = {True: 0, False: 0}
        for height, width, most in ((2, 2, 3), (1, 3, 3), (3, 1, 3), (2, 3, 2)):
            for entries in product(range(most), repeat=height * width):
                square = tuple(entries[row * width:(row + 1) * width] for row in range(height))
                rows, columns = tuple(range(height)), tuple(range(width))
                for tree in list(self.any_trees(square, rows, columns))[:150]:
                    right = is_tree_by(square, rows, columns, tree)
                    found[right] += 1
                    self.assertIs(is_tree_paper(square, ("tree", tree)), right)
        self.assertGreater(min(found.values()), 300)

    def test_links_out_of_the_part(self):
        # The rows are linked by the last column alone.
        square = ((0, 0, 7), (1, 1, 7))
        for links in (((0, 1, 2),), ((0, 0, 0), (0, 1, 2)), ((1, 0, 2), (0, 0, 1))):
            self.is_false(is_tree_paper(square, ("locked", (0, 1), (0, 1), links, ((0, 1, 0),))))
            self.is_false(is_tree_paper(transposed(square), ("locked", (0, 1), (0, 1), ((0, 1, 0),), links)))
            self.is_false(is_tree_paper(square, ("locked", (0, 1), (0, 1, 2), links, ((0, 1, 0),))))

    def test_one_class_is_none(self):
        inner = ("rows", ((0,), (1,)), (("flat", 1), ("flat", 2)))
        self.is_true(is_tree_paper(((1,), (2,)), ("tree", inner)))
        self.is_false(is_tree_paper(((1,), (2,)), ("tree", ("rows", ((0, 1),), (inner,)))))
        self.is_false(is_tree_paper(((1,), (2,)), ("tree", ("columns", ((0,),), (inner,)))))

    def test_values_near_it(self):
        for square in (((1, 1), (2, 3)), ((0, 0), (0, 1)), ((4,),), ((0, 1, 2), (1, 2, 0))):
            self.judges(is_tree_paper, (square,))
            self.judges(is_tree_paper, (square,), [("tree", odd) for odd in ODD])
            self.judges(is_tree_paper, (square,), [("locked",) + (odd,) * 4 for odd in ODD])
        self.accepts(is_tree_paper, (((1, 1), (2, 3)),), ("tree", TREE))
        self.accepts(is_tree_paper, (((0, 0), (0, 1)),), tree_or_locked(((0, 0), (0, 1))))
        self.judges(is_tree_paper, (((0, 0), (0, 1)),), [(), ("tree",), ("locked",), ("Locked", (0, 1), (0, 1), ((0, 1, 0),), ((0, 1, 0),))])

    def test_no_talk(self):
        """[24.3] Never both: each class of a tree that has one row of a locked part has all."""
        told = random.Random(3)
        for _ in range(200):
            square = tuple(tuple(told.randrange(3) for _ in range(3)) for _ in range(3))
            paper = tree_or_locked(square)
            if paper[0] == "tree":
                self.assertFalse(has_locked(square))

    def test_not_true(self):
        wheel = ((0, 0, 1), (3, 4, 1), (3, 2, 2))
        self.assertEqual([tree_or_locked(wheel)[0], len(set(wheel)), len(set(transposed(wheel)))], ["locked", 3, 3])


class AlongTest(Case):

    def along_by(self, square, tree, row, column):
        told = []
        while tree[0] != "flat":
            line = row if tree[0] == "rows" else column
            index = next(k for k, each in enumerate(tree[1]) if line in each)
            told.append(index)
            tree = tree[2][index]
        return tuple(told), tree[1]

    def test_all_places(self):
        told = random.Random(4)
        trees = 0
        while trees < 60:
            height, width = told.randrange(1, 5), told.randrange(1, 5)
            square = tuple(tuple(told.randrange(4) for _ in range(width)) for _ in range(height))
            word, tree = tree_or_locked(square)[:2]
            if word == "tree":
                trees += 1
                heard = {}
                for row in range(height):
                    for column in range(width):
                        self.same(self.along_by(square, tree, row, column), talk_along, square, tree, row, column)
                        found, entry = talk_along(square, tree, row, column)
                        self.assertEqual(entry, square[row][column])
                        heard[row, column] = found
                # Places with equal entries in one row, or in one column, are told alike.
                for (row, column), found in heard.items():
                    for other in range(width):
                        if square[row][column] == square[row][other]:
                            self.assertEqual(heard[row, other], found)
                    for other in range(height):
                        if square[row][column] == square[other][column]:
                            self.assertEqual(heard[other, column], found)

    def test_refused(self):
        square = ((1, 1), (2, 3))
        trees = (InvalidOperation, ODD + (
            ("tree", TREE), tree_or_locked(square), ("flat", 1), TREE[:2], ("columns",) + TREE[1:], list(TREE),
            ("rows", ((1,), (0,)), TREE[2]), ("rows", ((0,), (1,)), TREE[2][::-1]), ("rows", ((False,), (1,)), TREE[2])))
        self.refuses(talk_along, (square, TREE, 1, 1), (
            SQUARES, trees, (InvalidNumber, wrong_numbers(0, 1)), (InvalidNumber, wrong_numbers(0, 1))))
        self.refuses(tree_or_locked, (square,), (SQUARES,))
        self.refuses(is_tree_paper, (square, None), (SQUARES, (None, ())))
        self.assertEqual(talk_along(((60,) * 12,) * 12, ("flat", 60), 11, 11), ((), 60))


class SumTest(Case):

    def sums_of(self, many):
        """The functions that are sums, with what tells them."""
        found = {}
        for c in (0, 1):
            for size in range(many + 1):
                for houses in combinations(range(1, many + 1), size):
                    bits = tuple((c + sum(row[house - 1] for house in houses)) % 2 for row in product((0, 1), repeat=many))
                    found[bits] = ("sum", c, houses)
        return found

    def squares_of(self, bits, many):
        """All odd squares of a function."""
        table = dict(zip(product((0, 1), repeat=many), bits))
        found = set()
        for row in table:
            for one, other in combinations(range(1, many + 1), 2):
                if row[one - 1] == row[other - 1] == 0:
                    four = []
                    for x, y in product((0, 1), repeat=2):
                        place = list(row)
                        place[one - 1], place[other - 1] = x, y
                        four.append(table[tuple(place)])
                    if sum(four) % 2:
                        found.add(("square", one, other, row))
        return found

    def is_right(self, bits, many, sums):
        paper = sum_or_square(bits)
        squares = self.squares_of(bits, many)
        self.same(True, is_sum_paper, bits, paper)
        if bits in sums:
            self.assertEqual(paper, sums[bits])
            self.assertFalse(squares)
        else:
            self.assertIn(paper, squares)
        return squares

    def test_all_functions_of_two_and_three_bits(self):
        for many in (2, 3):
            sums = self.sums_of(many)
            for bits in product((0, 1), repeat=2 ** many):
                squares = self.is_right(bits, many, sums)
                for row in product((0, 1), repeat=many):
                    for one, other in product(range(0, many + 2), repeat=2):
                        paper = ("square", one, other, row)
                        self.assertIs(is_sum_paper(bits, paper), paper in squares)
            for bits in list(sums)[:9]:
                for other in sums:
                    self.assertIs(is_sum_paper(bits, sums[other]), other == bits)

    def test_rows_are_bits(self):
        bits = (0, 0, 0, 0, 0, 0, 0, 1)
        self.is_true(is_sum_paper(bits, ("square", 1, 2, (0, 0, 1))))
        for row in ((0, 0, 2), (0, 0, -1), (0, 0), (0, 0, 1, 0), (0, 0, True), [0, 0, 1], (False, 0, 1)):
            self.is_false(is_sum_paper(bits, ("square", 1, 2, row)))

    def test_more_bits(self):
        told = random.Random(5)
        for many in (4, 5, 6):
            sums = self.sums_of(many)
            for bits in told.sample(list(sums), 20):
                self.is_right(bits, many, sums)
                place = told.randrange(len(bits))
                self.is_right(bits[:place] + (1 - bits[place],) + bits[place + 1:], many, sums)
            for _ in range(10):
                self.is_right(tuple(told.randrange(2) for _ in range(2 ** many)), many, sums)

    def test_values(self):
        for bits in ((1, 0, 0, 1), (0, 0, 0, 1), (0,) * 8, (0,) * 63 + (1,)):
            self.accepts(is_sum_paper, (bits,), sum_or_square(bits))
            self.judges(is_sum_paper, (bits,))
            self.judges(is_sum_paper, (bits,), [("sum", odd, ()) for odd in ODD] + [("sum", 0, odd) for odd in ODD if odd != ()])
            self.judges(is_sum_paper, (bits,), [(), ("sum",), ("sum", 2, (1, 2)), ("sum", 3, (1, 2)), ("sum", -1, (1, 2)), ("sum", 2, ())])
            self.judges(is_sum_paper, (bits,), [("square", odd, 2, (0, 0)) for odd in ODD])
            self.judges(is_sum_paper, (bits,), [("square", 1, 2, odd) for odd in ODD])

    def test_refused(self):
        wrong = (InvalidTable, wrong_rows(2, 4) + tuple((0,) * many for many in range(70) if many not in (4, 8, 16, 32, 64)) + (
            (0, 1, 2, 0), (0,) * 128))
        self.refuses(sum_or_square, ((0, 1, 1, 0),), (wrong,))
        self.refuses(is_sum_paper, ((0, 1, 1, 0), None), (wrong, (None, ())))


class LotsTest(Case):

    def families(self, houses, most):
        """All families of at most so many lots."""
        lots = [lot for size in range(houses + 1) for lot in combinations(range(1, houses + 1), size)]
        return [family for size in range(1, most + 1) for family in combinations(lots, size)]

    def test_all_small_families(self):
        covered = {True: 0, False: 0}
        for houses, most in ((1, 2), (2, 3), (3, 3), (4, 2)):
            for family in self.families(houses, most):
                for order in (family, family[::-1]):
                    pairs = [(i, j) for i in range(len(order)) for j in range(i, len(order))]
                    found = [pair for pair in pairs if set(order[pair[0]]) | set(order[pair[1]]) == set(range(1, houses + 1))]
                    covered[bool(found)] += 1
                    self.same(found[0] if found else None, two_that_cover, houses, order)
                    if found:
                        self.raises(Refused, ("cover", found[0]), holders, houses, order)
                        self.raises(Refused, ("cover", found[0]), split, 7, houses, order, 3, (1,) * (len(order) - 1))
                    else:
                        self.same(tuple(min(set(range(1, houses + 1)) - set(order[i]) - set(order[j])) for i, j in pairs),
                                  holders, houses, order)
        self.assertGreater(min(covered.values()), 50)

    def test_splits(self):
        told = random.Random(6)
        for field, houses, family in ((5, 3, ((1,), (2,), (3,))), (7, 4, ((1,), (2,), (3,))), (5, 5, ((1, 2), (3, 4))), (5, 2, ((1,),)),
                                      (997, 9, tuple((house,) for house in range(1, 10))), (7, 9, ((), (1, 2, 3), (7, 8, 9)))):
            for _ in range(20):
                number = told.randrange(field)
                coins = tuple(told.randrange(field) for _ in range(len(family) - 1))
                parts = split(field, houses, family, number, coins)
                self.same(coins + ((number - sum(coins)) % field,), split, field, houses, family, number, coins)
                self.assertEqual([len(parts), sum(parts) % field], [len(family), number])

    def test_split_is_even(self):
        """[24.6] What a lot holds, all parts but its own one, comes from as many coins for each number."""
        family = ((1,), (2,), (3,))
        for index in range(3):
            tables = []
            for number in range(5):
                table = {}
                for coins in product(range(5), repeat=2):
                    parts = split(5, 3, family, number, coins)
                    key = tuple(part for k, part in enumerate(parts) if k != index)
                    table[key] = table.get(key, 0) + 1
                tables.append(table)
            self.assertEqual(tables, tables[:1] * 5)
            self.assertEqual(set(tables[0].values()), {1})

    def test_products_of_parts(self):
        """[24.6] The product of two numbers is the sum of products that single houses know."""
        family = ((1,), (2,), (3,))
        pairs = [(i, j) for i in range(3) for j in range(i, 3)]
        owners = dict(zip(pairs, holders(3, family)))
        for one, other in product(range(5), repeat=2):
            x, y = split(5, 3, family, one, (1, 4)), split(5, 3, family, other, (3, 3))
            total = 0
            for i, j in product(range(3), repeat=2):
                house = owners[min(i, j), max(i, j)]
                self.assertFalse(house in family[i] or house in family[j])
                total += x[i] * y[j]
            self.assertEqual(total % 5, one * other % 5)

    def test_not_true(self):
        # A family without covering lots, of which one has more than half of the houses.
        self.assertIsNone(two_that_cover(5, ((1, 2, 3), (1, 4))))

    FAMILIES = (InvalidLot, (
        None, 1, "", (), [], {}, PRODUCT, LONG, [(1,)], ((1,), [2]), ((0,),), ((4,),), ((2, 1),), ((1, 1),), ((True,),), ((None,),),
        ((1,), (1,)), ((), ()), (1, 2), ((1,), None), (("1",),), ((LONG,),), tuple((k,) for k in range(1, 14)), {0: (1,)}))

    def test_refused(self):
        houses = (InvalidNumber, wrong_numbers(1, 9))
        self.refuses(two_that_cover, (3, ((1,), (2,))), ((InvalidNumber, ()), self.FAMILIES))
        self.refuses(holders, (3, ((1,), (2,))), ((InvalidNumber, ()), self.FAMILIES),
                     ((Refused, ("cover", (0, 1)), (3, ((1,), (2, 3)))),))
        numbers, coins = (InvalidNumber, wrong_numbers(0, 6)), (InvalidCoins, wrong_rows(7, 1) + ((), (1, 2)))
        self.refuses(split, (7, 3, ((1,), (2,)), 6, (1,)), (
            (InvalidNumber, WRONG_FIELDS), (InvalidNumber, ()), self.FAMILIES, numbers, coins),
            ((Refused, ("cover", (0, 1)), (7, 3, ((1,), (2, 3)), 6, (1,))),))
        for value in houses[1]:
            for function, rest in ((two_that_cover, (((1,),),)), (holders, (((1,),),)), (two_that_cover, (None,)), (holders, (None,))):
                self.raises(InvalidNumber, value, function, value, *rest)
            self.raises(InvalidNumber, value, split, 7, value, None, None, None)
            self.raises(InvalidNumber, 8, split, 8, value, None, None, None)
        twelve = tuple((k, k + 1) for k in range(1, 9)) + ((1,), (2,), (3,), (4,))
        self.assertIsNone(two_that_cover(9, twelve))
        self.raises(InvalidLot, None, two_that_cover, 9, twelve + ((5,),))
        self.assertEqual(two_that_cover(1, ((), (1,))), (0, 1))
        self.raises(InvalidTable, None, tree_or_locked, SMALL)
