"""Packings of circuits of plane graphs, and the least cost by them."""

from spinfield.duals import check_couplings, costs
from spinfield.errors import TooLarge
from spinfield.fractions import add, compare, fraction
from spinfield.planes import dual, faces

MOST_FACES = 8


def packing_bound(plane, couplings, packing):
    """Returns the bound of a packing, or None if it is no packing. Raises InvalidWeight, then TooLarge."""
    _check(plane, couplings)
    loads = [(0, 1)] * len(couplings)
    bound = (sum(j for j in couplings if j < 0), 1)
    for circuit, amount in packing:
        if not _is_circuit(plane, circuit) or not _is_frustrated(couplings, circuit) or compare(amount, (0, 1)) <= 0:
            return None
        for edge in circuit:
            loads[edge] = add(loads[edge], amount)
        bound = add(bound, amount)
    if any(compare(load, (abs(j), 1)) > 0 for load, j in zip(loads, couplings)):
        return None
    return bound


def _check(plane, couplings):
    """Raises InvalidWeight or TooLarge as plane_sum does, then TooLarge if there are more than 8 faces."""
    check_couplings(plane, couplings)
    if len(faces(plane)) > MOST_FACES:
        raise TooLarge("too many faces")


def _is_circuit(plane, edges):
    """Returns True if a tuple of integers is a circuit of a plane graph, otherwise False."""
    if not edges or any(before >= behind for before, behind in zip(edges, edges[1:])):
        return False
    if edges[0] < 0 or edges[-1] >= len(plane.edges):
        return False
    near = {}
    for edge in edges:
        for vertex in plane.edges[edge]:
            near.setdefault(vertex, []).append(edge)
    if any(len(met) != 2 for met in near.values()):
        return False
    # Each vertex has two ends of edges: these are several circuits or a single one.
    reached = {edges[0]: True}
    waiting = [edges[0]]
    while waiting:
        u, v = plane.edges[waiting.pop()]
        for edge in near[u] + near[v]:
            if edge not in reached:
                reached[edge] = True
                waiting.append(edge)
    return len(reached) == len(edges)


def _is_frustrated(couplings, circuit):
    """Returns True if an odd number of edges of a circuit have negative couplings, otherwise False."""
    return sum(1 for edge in circuit if couplings[edge] < 0) & 1 == 1


def least_by_circuits(plane, couplings):
    """Returns the triple of the least cost, a state with it, and a packing with this bound.

    Raises InvalidWeight, then TooLarge.
    """
    _check(plane, couplings)
    paid = costs(plane, couplings)
    least = min(paid)
    mask = paid.index(least)
    state = tuple(mask >> vertex & 1 for vertex in range(plane.count))
    circuits = _frustrated_circuits(plane, couplings)
    amounts = _greatest_amounts(circuits, [abs(j) for j in couplings])
    packing = tuple((circuit, amount) for circuit, amount in zip(circuits, amounts) if amount != (0, 1))
    return least, state, packing


def _frustrated_circuits(plane, couplings):
    """Returns the list of all frustrated circuits."""
    # A circuit has some faces on the one side and the others on the other one; the last
    # face may always be among the others.
    around = dual(plane)
    circuits = []
    for mask in range(1 << (around.count - 1)):
        edges = tuple(edge for edge, (u, v) in enumerate(around.edges) if (mask >> u ^ mask >> v) & 1)
        if _is_circuit(plane, edges) and _is_frustrated(couplings, edges):
            circuits.append(edges)
    return circuits


def _greatest_amounts(circuits, sizes):
    """Returns an amount for each circuit, so that they add up to at most the size of each edge, and to most in all."""
    # The simplex method. The table has a row for each edge, with what is left of its
    # size in a column of its own, and a last row for what is gained; all its numbers
    # are integers, divided by the one number below.
    table = _first_table(circuits, sizes)
    bases = [len(circuits) + edge for edge in range(len(sizes))]
    below = 1
    gains = _columns_to_enter(table)
    while gains:
        # To take always the first column, and the first of several rows, never ends in
        # a round.
        column = gains[0]
        row = _row_to_leave(table, bases, column)
        bases[row] = column
        table, below = _exchanged(table, row, column, below), table[row][column]
        gains = _columns_to_enter(table)
    amounts = [(0, 1)] * len(circuits)
    for base, row in zip(bases, table):
        if base < len(circuits):
            amounts[base] = fraction(row[-1], below)
    return amounts


def _first_table(circuits, sizes):
    """Returns the table in which all amounts are 0."""
    table = []
    for edge, size in enumerate(sizes):
        row = [1 if edge in circuit else 0 for circuit in circuits]
        table.append(row + [1 if other == edge else 0 for other in range(len(sizes))] + [size])
    table.append([-1] * len(circuits) + [0] * (len(sizes) + 1))
    return table


def _columns_to_enter(table):
    """Returns the columns by which more could be gained."""
    return [column for column, entry in enumerate(table[-1]) if entry < 0]


def _row_to_leave(table, bases, column):
    """Returns the row that limits first how much of a column can be had."""
    rows = [row for row in range(len(bases)) if table[row][column] > 0]
    best = rows[0]
    for row in rows[1:]:
        order = compare((table[row][-1], table[row][column]), (table[best][-1], table[best][column]))
        if order < 0 or (order == 0 and bases[row] < bases[best]):
            best = row
    return best


def _exchanged(table, place, column, below):
    """Returns the table in which a column has entered and its row has left."""
    pivot = table[place][column]
    changed = []
    for index, row in enumerate(table):
        if index == place:
            changed.append(row)
        else:
            # The division leaves nothing over: these numbers are determinants.
            changed.append([(pivot * a - row[column] * b) // below for a, b in zip(row, table[place])])
    return changed
