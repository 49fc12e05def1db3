"""Gates in many cases at once: rows with a number for each case."""


def gate_row(field, gate, rows, many):
    """The row of a gate that is no input, in so many cases, by the rows of the gates ahead of it."""
    if gate[0] == "constant":
        return [gate[1] % field] * many
    row = rows[gate[1]]
    if gate[0] == "times":
        factor = gate[2]
        return [x * factor % field for x in row]
    if gate[0] == "sum":
        return [(x + y) % field for x, y in zip(row, rows[gate[2]])]
    return [x * y % field for x, y in zip(row, rows[gate[2]])]


def meaning_rows(field, gates, given, many):
    """The list of the rows of all gates, in so many cases, the inputs having the given rows in turn."""
    rows = []
    taken = 0
    for gate in gates:
        if gate[0] == "input":
            rows.append(given[taken])
            taken += 1
        else:
            rows.append(gate_row(field, gate, rows, many))
    return rows
