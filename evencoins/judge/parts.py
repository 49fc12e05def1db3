"""Parts of squares: rows and columns that hang together, and trees of classes that do not."""

from evencoins.base.field import are_numbers, is_ascending, is_integer

MAX_LINES = 12
MAX_ENTRY = 60


def is_whole(square):
    """Whether the value is a tuple of 1 to 12 equally long tuples of 1 to 12 entries."""
    if not isinstance(square, tuple) or not 1 <= len(square) <= MAX_LINES:
        return False
    if not all([are_numbers(MAX_ENTRY + 1, row) and 1 <= len(row) <= MAX_LINES for row in square]):
        return False
    return all([len(row) == len(square[0]) for row in square])


def turned(square):
    """The square with rows and columns exchanged."""
    return tuple([tuple([row[k] for row in square]) for k in range(len(square[0]))])


def all_lines(square):
    """The tuples of all rows and of all columns."""
    return tuple(range(len(square))), tuple(range(len(square[0])))


def are_entries(square, rows, columns, entry):
    """Whether all entries of a part are this one."""
    return all([square[row][column] == entry for row in rows for column in columns])


def links_between(square, held, row, columns):
    """The links with equal entries of a row and the held ones."""
    return [(each, row, column) for each in held for column in columns if square[each][column] == square[row][column]]


def linked_classes(square, rows, columns):
    """The ascending classes of rows that hang together, and the links that hold them together."""
    classes = []
    links = []
    for row in rows:
        joined = (row,)
        others = []
        for held in classes:
            found = links_between(square, held, row, columns)
            if found:
                links.append(found[0])
                joined = joined + held
            else:
                others.append(held)
        classes = others + [joined]
    return sorted([tuple(sorted(held)) for held in classes]), tuple(links)


def tree_or_part(square, back, rows, columns):
    """The pair of the tree of a part and None, or of None and the paper of a locked part in it.

    `back` is the square with rows and columns exchanged.
    """
    entry = square[rows[0]][columns[0]]
    if are_entries(square, rows, columns, entry):
        return ("flat", entry), None
    classes, links = linked_classes(square, rows, columns)
    if len(classes) > 1:
        return joined("rows", classes, [tree_or_part(square, back, held, columns) for held in classes])
    others, more = linked_classes(back, columns, rows)
    if len(others) > 1:
        return joined("columns", others, [tree_or_part(square, back, rows, held) for held in others])
    return None, ("locked", rows, columns, links, more)


def joined(word, classes, found):
    """What is found of a part, by what is found of its classes."""
    for tree, locked in found:
        if locked is not None:
            return None, locked
    return (word, tuple(classes), tuple([tree for tree, locked in found])), None


def are_classes(lines, value):
    """Whether the value has at least two classes, ascending tuples, that have each of the lines once."""
    if not isinstance(value, tuple) or len(value) < 2:
        return False
    if not all([is_ascending(held, 0, MAX_LINES - 1) and held != () for held in value]):
        return False
    return sorted([line for held in value for line in held]) == list(lines)


def are_unlike(square, classes, columns):
    """Whether rows of unlike classes have unlike entries in each column."""
    for column in columns:
        owners = {}
        for index, held in enumerate(classes):
            for row in held:
                if owners.setdefault(square[row][column], index) != index:
                    return False
    return True


def is_tree_of(square, back, rows, columns, value):
    """Whether the value is a tree of a part."""
    if not isinstance(value, tuple) or not 2 <= len(value) <= 3:
        return False
    if len(value) == 2:
        entry = value[1]
        return value[0] == "flat" and is_integer(entry, 0, MAX_ENTRY) and are_entries(square, rows, columns, entry)
    word, classes, trees = value
    if word == "rows":
        if not are_classes(rows, classes) or not are_unlike(square, classes, columns):
            return False
    elif word != "columns" or not are_classes(columns, classes) or not are_unlike(back, classes, rows):
        return False
    if not isinstance(trees, tuple) or len(trees) != len(classes):
        return False
    if word == "rows":
        return all([is_tree_of(square, back, held, columns, tree) for held, tree in zip(classes, trees)])
    return all([is_tree_of(square, back, rows, held, tree) for held, tree in zip(classes, trees)])


def is_link(square, rows, columns, value):
    """Whether the value is a link of two rows of a part, or of one with itself."""
    if not are_numbers(MAX_LINES, value) or len(value) != 3:
        return False
    one, other, column = value
    if one not in rows or other not in rows or column not in columns:
        return False
    return square[one][column] == square[other][column]


def hang_together(lines, links):
    """Whether all lines hang together by links."""
    marks = {line: line for line in lines}
    for one, other, place in links:
        old, new = marks[one], marks[other]
        marks = {line: new if mark == old else mark for line, mark in marks.items()}
    return len(set(list(marks.values()))) == 1


def are_holding(square, rows, columns, links):
    """Whether the value is a tuple of links that hold all rows of a part together."""
    if not isinstance(links, tuple) or not all([is_link(square, rows, columns, link) for link in links]):
        return False
    return hang_together(rows, links)


def is_locked_paper(square, rows, columns, links, others):
    """Whether these are the rows and the columns of a locked part, with links of both."""
    if not is_ascending(rows, 0, len(square) - 1) or not is_ascending(columns, 0, len(square[0]) - 1):
        return False
    if rows == () or columns == () or are_entries(square, rows, columns, square[rows[0]][columns[0]]):
        return False
    return are_holding(square, rows, columns, links) and are_holding(turned(square), columns, rows, others)
