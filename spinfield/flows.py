"""Flows along the edges of spins without negative couplings, and the least cost by them."""

from spinfield.fractions import add, compare, subtract
from spinfield.spins import check_ferro, cost


def flow_bound(spins, flow):
    """Returns the bound of a flow, or None if a tuple is no flow of the spins. Raises NotFerro."""
    check_ferro(spins)
    if len(flow) != len(spins.edges):
        return None
    leaving = [(0, 1)] * len(spins.fields)
    for (u, v, j), amount in zip(spins.edges, flow):
        if compare(amount, (-j, 1)) < 0 or compare(amount, (j, 1)) > 0:
            return None
        leaving[u] = add(leaving[u], amount)
        leaving[v] = subtract(leaving[v], amount)
    bound = (0, 1)
    for field, amount in zip(spins.fields, leaving):
        low, high = sorted([0, -field])
        if compare(amount, (low, 1)) < 0 or compare(amount, (high, 1)) > 0:
            return None
        if field < 0:
            bound = add(bound, add((field, 1), amount))
    return bound


def least_by_flow(spins):
    """Returns the triple of the least cost, a state with it, and a flow with this bound. Raises NotFerro."""
    check_ferro(spins)
    flow = [0] * len(spins.edges)
    # What may still leave each vertex, or, if it is negative, still come to it.
    left = [-field for field in spins.fields]
    while True:
        ways = _ways(spins, flow, left)
        ends = [vertex for vertex in ways if left[vertex] < 0]
        if not ends:
            break
        end = ends[0]
        start, steps = ways[end]
        amount = min([left[start], -left[end]] + [_spare(spins, flow, step) for step in steps])
        for index, sign in steps:
            flow[index] += sign * amount
        left[start] -= amount
        left[end] += amount
    # No edge can carry more away from the vertices that are reached, no more can come to
    # them, and no more can leave the others: so with just them up, the bound is paid.
    state = tuple(1 if vertex in ways else 0 for vertex in range(len(left)))
    return cost(spins, state), state, tuple((amount, 1) for amount in flow)


def _ways(spins, flow, left):
    """Returns a dict from the vertices that more can reach to pairs of the start and the steps of a way there."""
    ways = {vertex: (vertex, ()) for vertex, amount in enumerate(left) if amount > 0}
    waiting = list(ways)
    while waiting:
        vertex = waiting.pop(0)
        start, steps = ways[vertex]
        for step, other in _steps_from(spins, vertex):
            if other not in ways and _spare(spins, flow, step) > 0:
                ways[other] = (start, steps + (step,))
                waiting.append(other)
    return ways


def _steps_from(spins, vertex):
    """Returns a list of pairs of a step from a vertex and the vertex behind it.

    A step is a pair of an edge and 1, or -1 if it goes from its second vertex to its first one.
    """
    found = []
    for index, (u, v, _) in enumerate(spins.edges):
        if u == vertex:
            found.append(((index, 1), v))
        elif v == vertex:
            found.append(((index, -1), u))
    return found


def _spare(spins, flow, step):
    """Returns how much more can flow along a step."""
    index, sign = step
    return spins.edges[index][2] - sign * flow[index]
