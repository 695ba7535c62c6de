"""Matchings of graphs: the dimer sum, and the matchings by their sizes."""

from spinfield.errors import InvalidWeight, TooLarge
from spinfield.fractions import add, multiply
from spinfield.polynomials import ONE, plus, times

MOST_VERTICES = 16


def matching_sum(count, edges):
    """Returns the dimer sum of a graph with count vertices. Raises InvalidWeight, then TooLarge."""
    _check_graph(count, edges)
    links = _links(count, edges, (0, 1), add)
    # A vertex that stays alone gives 0, since its matching is not perfect.
    return _sum_over_matchings(links, (0, 1), (0, 1), (1, 1), add, multiply)


def matching_polynomial(count, edges):
    """Returns the sum, over all matchings, of x to the power of their size. Raises InvalidWeight, then TooLarge."""
    _check_graph(count, edges)
    each = [(u, v, (((1, 0), 1),)) for u, v, _ in edges]
    return _sum_over_matchings(_links(count, each, (), plus), ONE, (), ONE, plus, times)


def _check_graph(count, edges):
    """Raises InvalidWeight if an end of an edge is not there, then TooLarge if there are too many vertices."""
    for u, v, _ in edges:
        if not (0 <= u < count and 0 <= v < count):
            raise InvalidWeight("an edge with an end that is not there")
    if count > MOST_VERTICES:
        raise TooLarge("too many vertices")


def _links(count, edges, zero, summed):
    """Returns for each vertex a dict from the later vertices to the weights of all edges that lead there."""
    links = [{} for _ in range(count)]
    for u, v, weight in edges:
        # No matching has a loop.
        if u != v:
            later = links[min(u, v)]
            later[max(u, v)] = summed(later.get(max(u, v), zero), weight)
    return links


def _sum_over_matchings(links, alone, zero, one, summed, multiplied):
    """Returns the sum, over all matchings, of the product of what their edges and the vertices alone give."""
    # Up to some vertex, the matchings are summed by the later vertices that they
    # have taken, a mask.
    table = {0: one}
    for vertex, later in enumerate(links):
        grown = {}
        for taken in table:
            if taken >> vertex & 1:
                choices = [(taken ^ (1 << vertex), one)]
            else:
                choices = [(taken, alone)]
                choices += [(taken | (1 << other), later[other]) for other in later if not taken >> other & 1]
            for mask, factor in choices:
                grown[mask] = summed(grown.get(mask, zero), multiplied(table[taken], factor))
        table = grown
    return table[0]
