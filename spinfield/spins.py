"""Spins on small graphs, their states, and the partition polynomial, state by state."""

from spinfield.errors import InvalidSpins, NotFerro
from spinfield.polynomials import polynomial

MOST_VERTICES = 12
MOST_EDGES = 24
MOST_SIZE = 9


class Spins:
    """Vertices with fields, and edges (u, v, j) with couplings between them."""

    def __init__(self, fields, edges):
        self.fields = tuple(fields)
        self.edges = tuple(tuple(edge) for edge in edges)
        _check_fields(self.fields)
        _check_edges(self.edges, len(self.fields))


def _check_fields(fields):
    """Raises InvalidSpins if fields, or their number, are not as they have to be."""
    if not 1 <= len(fields) <= MOST_VERTICES:
        raise InvalidSpins("too few or too many vertices")
    if not all(-MOST_SIZE <= field <= MOST_SIZE for field in fields):
        raise InvalidSpins("a field is too large or too small")


def _check_edges(edges, count):
    """Raises InvalidSpins if edges between so many vertices are not as they have to be."""
    if len(edges) > MOST_EDGES:
        raise InvalidSpins("too many edges")
    for u, v, j in edges:
        if not 0 <= u < v < count:
            raise InvalidSpins("an edge without two vertices in order")
        if j == 0 or not -MOST_SIZE <= j <= MOST_SIZE:
            raise InvalidSpins("a coupling is 0, too large or too small")
    for before, behind in zip(edges, edges[1:]):
        if before[:2] >= behind[:2]:
            raise InvalidSpins("the pairs of vertices do not ascend")


def all_states(spins):
    """Returns the list of all states in ascending order."""
    states = [()]
    for _ in spins.fields:
        states = [state + (spin,) for state in states for spin in (0, 1)]
    return states


def cost(spins, state):
    """Returns what a state pays for its couplings and fields."""
    paid = sum(j for u, v, j in spins.edges if state[u] != state[v])
    return paid + sum(field for field, spin in zip(spins.fields, state) if spin == 1)


def ups(state):
    """Returns the number of vertices that are up in a state."""
    return sum(state)


def check_ferro(spins):
    """Raises NotFerro if a coupling is negative."""
    if any(j < 0 for _, _, j in spins.edges):
        raise NotFerro("a coupling is negative")


def without_field(spins):
    """Returns the spins with the same edges and all fields 0."""
    return Spins([0] * len(spins.fields), spins.edges)


def together(first, second):
    """Returns the spins of two spins side by side. Raises InvalidSpins if they are too many."""
    shift = len(first.fields)
    moved = [(u + shift, v + shift, j) for u, v, j in second.edges]
    return Spins(first.fields + second.fields, first.edges + tuple(moved))


def sum_by_states(spins):
    """Returns the partition polynomial, found state by state."""
    return polynomial([((cost(spins, state), ups(state)), 1) for state in all_states(spins)])
