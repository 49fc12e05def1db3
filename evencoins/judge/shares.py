"""The talk of a hall without products as rows: what its houses tell, of secrets and coins."""

from evencoins.talk.letters import told_outputs


def coin_starts(hall, circuit):
    """For each input the place of its first coin, the coins standing by houses; and the owners of all coins."""
    starts = {}
    owners = []
    for house, place in sorted([(owner, index) for index, owner in enumerate(circuit.houses)]):
        starts[place] = len(owners)
        owners.extend([house] * hall.most)
    return starts, tuple(owners)


def input_row(hall, many, coins, place, start, house):
    """The row of a house's share of an input."""
    row = [0] * (1 + many + coins)
    row[1 + place] = 1
    power = 1
    for k in range(hall.most):
        power = power * house % hall.field
        row[1 + many + start + k] = power
    return tuple(row)


def gate_row(hall, gate, rows, width):
    """The row of a share of a gate that is no input, by those of the gates ahead of it."""
    if gate[0] == "constant":
        return (gate[1] % hall.field,) + (0,) * (width - 1)
    if gate[0] == "sum":
        return tuple([(x + y) % hall.field for x, y in zip(rows[gate[1]], rows[gate[2]])])
    return tuple([x * gate[2] % hall.field for x in rows[gate[1]]])


def share_rows(hall, circuit, house):
    """The list of the rows of a house's shares of all gates: a number, secrets, coins."""
    starts, owners = coin_starts(hall, circuit)
    many = len(circuit.inputs)
    rows = []
    for gate, parts in enumerate(circuit.gates):
        if parts[0] == "input":
            place = circuit.inputs.index(gate)
            rows.append(input_row(hall, many, len(owners), place, starts[place], house))
        else:
            rows.append(gate_row(hall, parts, rows, 1 + many + len(owners)))
    return rows


def all_letters(hall, circuit):
    """All letters as pairs of who hears them and a row: first the dealings, then the outputs."""
    rows = {house: share_rows(hall, circuit, house) for house in hall.places}
    pairs = [(sender, goal) for sender in hall.places for goal in hall.places if goal != sender]
    dealt = [(goal, rows[goal][gate]) for sender, goal in pairs for gate in circuit.inputs_of(sender)]
    told = [(goal, rows[sender][circuit.outputs[index][0]])
            for sender, goal in pairs for index in told_outputs(circuit, goal)]
    return tuple(dealt + told)


def all_outputs(hall, circuit):
    """All outputs as pairs of who is to be told them and a row of secrets alone."""
    # The secrets have the same part in the shares of all houses.
    rows = share_rows(hall, circuit, 1)
    width = 1 + len(circuit.inputs)
    return tuple([(house, rows[gate][:width]) for gate, houses in circuit.outputs for house in houses])
