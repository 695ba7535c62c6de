"""Even sets of edges, and the partition polynomial by them."""

from spinfield.errors import HasField, TooLarge
from spinfield.polynomials import ONE, minus, plus, shared, times
from spinfield.transfer import least_order, steps_along

MOST_SETS = 8192


def even_sets(spins):
    """Returns the list of all even sets of edges in ascending order. Raises TooLarge."""
    rounds = _independent_rounds(spins)
    if 1 << len(rounds) > MOST_SETS:
        raise TooLarge("too many even sets")
    masks = [0]
    for one in rounds:
        masks = masks + [mask ^ one for mask in masks]
    return sorted([_members(mask, len(spins.edges)) for mask in masks])


def _members(mask, count):
    """Returns the ascending tuple of the edges, of so many ones, that a mask has."""
    return tuple(index for index in range(count) if mask >> index & 1)


def _independent_rounds(spins):
    """Returns masks of even sets, of which each even set is the sum of some in just one way."""
    count = len(spins.fields)
    # The way of a vertex is the mask of the edges of a tree that lead to it from its root.
    roots = list(range(count))
    ways = [0] * count
    rounds = []
    for index, (u, v, _) in enumerate(spins.edges):
        link = ways[u] ^ ways[v] ^ (1 << index)
        if roots[u] == roots[v]:
            rounds.append(link)
            continue
        old = roots[v]
        for vertex in range(count):
            if roots[vertex] == old:
                roots[vertex] = roots[u]
                ways[vertex] ^= link
    return rounds


def sum_by_loops(spins):
    """Returns the partition polynomial with 1 for y, found by loops. Raises HasField if a field is not 0."""
    if any(spins.fields):
        raise HasField("loops are for spins without field")
    count = len(spins.fields)
    weights = []
    for _, _, j in spins.edges:
        weight = (((j, 0), 1),)
        weights.append((plus(ONE, weight), minus(ONE, weight)))
    total = sum_over_even_sets(count, spins.edges, weights)
    return shared(times(total, (((0, 0), 1 << count),)), 1 << len(weights))


def sum_over_even_sets(count, edges, weights):
    """Returns the sum, over all even sets of edges between so many vertices, of a product.

    Each edge, perhaps a loop, gives the first of its two weights if it is left out,
    the second one if it is in the set.
    """
    # There can be too many even sets for a list. So the sets of the edges up to some
    # vertex are summed by the vertices of the frontier that are odd in them, a mask.
    table = {0: ONE}
    for _, indexes, leaving in steps_along(edges, least_order(count, edges)[1]):
        for index in indexes:
            u, v = edges[index][:2]
            table = _with_edge(table, (1 << u) ^ (1 << v), weights[index])
        gone = sum(1 << vertex for vertex in leaving)
        table = {odd: table[odd] for odd in table if not odd & gone}
    return table[0]


def _with_edge(table, ends, weight):
    """Returns the table of sums behind a further edge, which turns the vertices of the mask ends."""
    out, taken = weight
    grown = {}
    for odd in table:
        turned = odd ^ ends
        grown[odd] = plus(grown.get(odd, ()), times(table[odd], out))
        grown[turned] = plus(grown.get(turned, ()), times(table[odd], taken))
    return grown
