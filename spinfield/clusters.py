"""Sums over all sets of edges, by the clusters that they join."""

from spinfield.errors import HasField
from spinfield.polynomials import ONE, minus, plus, times
from spinfield.transfer import least_width, steps_along


def sum_by_clusters(spins):
    """Returns the partition polynomial, found by clusters."""
    # A cluster gives 1 + x^h y^k. It is summed once as a cluster that gives the 1, and
    # once as one whose vertices give x^h y^k: so h and k need not be known at its end.
    gifts = [(ONE, (((field, 1), 1),)) for field in spins.fields]
    return _sum_over_sets(spins, gifts, _weights(spins), ONE)


def cluster_polynomial(spins):
    """Returns the cluster polynomial, for which couplings and fields have no meaning."""
    weights = [(ONE, (((0, 1), 1),))] * len(spins.edges)
    return _sum_over_sets(spins, _no_gifts(spins), weights, (((1, 0), 1),))


def colour_sum(spins, colours):
    """Returns the colour sum for a number of colours. Raises HasField if a field is not 0."""
    if any(spins.fields):
        raise HasField("colours are for spins without field")
    return _sum_over_sets(spins, _no_gifts(spins), _weights(spins), (((0, 0), colours),))


def _no_gifts(spins):
    """Returns what the vertices give where all clusters are of one kind and give the same."""
    return [(ONE,)] * len(spins.fields)


def _weights(spins):
    """Returns for each edge the pair of x^j, if it is left out, and 1 - x^j, if it is taken."""
    out = [(((j, 0), 1),) for _, _, j in spins.edges]
    return [(weight, minus(ONE, weight)) for weight in out]


def _sum_over_sets(spins, gifts, weights, closing):
    """Returns the sum, over all sets of edges and all kinds of their clusters, of a product.

    Each vertex gives the factor that gifts has for it and for the kind of its cluster.
    Each edge gives the first of its weights if it is left out, the second if it is in
    the set. Each cluster gives the factor closing.
    """
    # Up to some vertex of an order, the sets are summed by what the clusters have of
    # the frontier, since only there they can still be joined.
    table = {(): ONE}
    for vertex, edges, leaving in steps_along(spins.edges, least_width(spins)[1]):
        table = _with_vertex(table, vertex, gifts[vertex])
        for index in edges:
            table = _with_edge(table, spins.edges[index], weights[index])
        for gone in leaving:
            table = _without_vertex(table, gone, closing)
    return table[()]


def _with_vertex(table, vertex, factors):
    """Returns the table behind a further vertex, a cluster by itself of each kind."""
    grown = {}
    for clusters in table:
        for kind, factor in enumerate(factors):
            key = tuple(sorted(clusters + (((vertex,), kind),)))
            grown[key] = times(table[clusters], factor)
    return grown


def _with_edge(table, edge, weight):
    """Returns the table behind a further edge, with its pair of weights."""
    out, taken = weight
    grown = {}
    for clusters in table:
        parts = [(clusters, out)]
        touched = [cluster for cluster in clusters if edge[0] in cluster[0] or edge[1] in cluster[0]]
        if len(touched) == 1:
            parts = [(clusters, plus(out, taken))]
        elif touched[0][1] == touched[1][1]:
            parts.append((_joined(clusters, touched), taken))
        for key, factor in parts:
            grown[key] = plus(grown.get(key, ()), times(table[clusters], factor))
    return grown


def _joined(clusters, touched):
    """Returns clusters in which two of one kind have become one."""
    (one, kind), (other, _) = touched
    rest = [cluster for cluster in clusters if cluster not in touched]
    return tuple(sorted(rest + [(tuple(sorted(one + other)), kind)]))


def _without_vertex(table, gone, closing):
    """Returns the table behind a vertex that leaves the frontier, perhaps as the last one of its cluster."""
    left = {}
    for clusters in table:
        rest = []
        factor = ONE
        for vertices, kind in clusters:
            if vertices == (gone,):
                factor = closing
            else:
                rest.append((tuple(vertex for vertex in vertices if vertex != gone), kind))
        key = tuple(sorted(rest))
        left[key] = plus(left.get(key, ()), times(table[clusters], factor))
    return left
