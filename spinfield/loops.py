"""Even sets of edges, and the partition polynomial by them."""

from spinfield.errors import HasField, TooLarge
from spinfield.polynomials import ONE, plus, polynomial, shared, times
from spinfield.transfer import least_width, steps_along

MOST_SETS = 8192


def even_sets(spins):
    """Returns the list of all even sets of edges in ascending order. Raises TooLarge."""
    rounds = _independent_rounds(spins)
    if 1 << len(rounds) > MOST_SETS:
        raise TooLarge("too many even sets")
    masks = [0]
    for one in rounds:
        masks = masks + [mask ^ one for mask in masks]
    return sorted([_members(mask, len(spins.edges)) for mask in masks])


def _members(mask, count):
    """Returns the ascending tuple of the edges, of so many ones, that a mask has."""
    return tuple(index for index in range(count) if mask >> index & 1)


def _independent_rounds(spins):
    """Returns masks of even sets, of which each even set is the sum of some in just one way."""
    count = len(spins.fields)
    # The way of a vertex is the mask of the edges of a tree that lead to it from its root.
    roots = list(range(count))
    ways = [0] * count
    rounds = []
    for index, (u, v, _) in enumerate(spins.edges):
        link = ways[u] ^ ways[v] ^ (1 << index)
        if roots[u] == roots[v]:
            rounds.append(link)
            continue
        old = roots[v]
        for vertex in range(count):
            if roots[vertex] == old:
                roots[vertex] = roots[u]
                ways[vertex] ^= link
    return rounds


def sum_by_loops(spins):
    """Returns the partition polynomial with 1 for y, found by loops. Raises HasField if a field is not 0."""
    if any(spins.fields):
        raise HasField("loops are for spins without field")
    states = ((0, 0), 1 << len(spins.fields))
    return shared(times(_sum_over_even_sets(spins), (states,)), 1 << len(spins.edges))


def _sum_over_even_sets(spins):
    """Returns the sum, over all even sets, of 1 - x^j for their edges and 1 + x^j for the other ones."""
    # There can be too many even sets for a list. So the sets of the edges up to some
    # vertex are summed by the vertices of the frontier that are odd in them, a mask.
    table = {0: ONE}
    for _, edges, leaving in steps_along(spins, least_width(spins)[1]):
        for index in edges:
            table = _with_edge(table, spins.edges[index])
        gone = sum(1 << vertex for vertex in leaving)
        table = {odd: table[odd] for odd in table if not odd & gone}
    return table[0]


def _with_edge(table, edge):
    """Returns the table of sums behind a further edge."""
    u, v, j = edge
    outside = polynomial([((0, 0), 1), ((j, 0), 1)])
    inside = polynomial([((0, 0), 1), ((j, 0), -1)])
    grown = {}
    for odd in table:
        turned = odd ^ (1 << u) ^ (1 << v)
        grown[odd] = plus(grown.get(odd, ()), times(table[odd], outside))
        grown[turned] = plus(grown.get(turned, ()), times(table[odd], inside))
    return grown
