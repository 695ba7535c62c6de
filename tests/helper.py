"""What several tests need: checks of kinds, a few spins, and sums found in the plainest way."""

from fractions import Fraction
from itertools import combinations, product

from spinfield.spins import Spins


def is_integer(n):
    return type(n) is int


def is_fraction(f):
    """True for a tuple (n, d) in lowest terms with d of at least 1."""
    if not (type(f) is tuple and len(f) == 2 and all(is_integer(n) for n in f) and f[1] >= 1):
        return False
    exact = Fraction(f[0], f[1])
    return (exact.numerator, exact.denominator) == f


def is_polynomial(p):
    """True for a tuple of terms as the document has them."""
    if type(p) is not tuple:
        return False
    for term in p:
        if not (type(term) is tuple and len(term) == 2 and is_integer(term[1]) and term[1] != 0):
            return False
        if not (type(term[0]) is tuple and len(term[0]) == 2 and all(is_integer(n) for n in term[0])):
            return False
    pairs = [pair for pair, _ in p]
    return all(before < behind for before, behind in zip(pairs, pairs[1:]))


def gathered(terms):
    """The polynomial of terms, by a way of its own."""
    found = {}
    for pair, c in terms:
        found[pair] = found.get(pair, 0) + c
    return tuple(sorted((pair, c) for pair, c in found.items() if c != 0))


def product_of(factors):
    """The product of polynomials, by a way of its own."""
    result = gathered([((0, 0), 1)])
    for p in factors:
        result = gathered([((a + d, b + e), c * f) for (a, b), c in result for (d, e), f in p])
    return result


def plain_value(p, x, y):
    """The value of a polynomial at two fractions, as one of Python's own fractions."""
    return sum((c * Fraction(*x) ** a * Fraction(*y) ** b for (a, b), c in p), Fraction(0))


def plain_sum(fields, edges):
    """The partition polynomial, straight from point 9."""
    terms = []
    for state in product((0, 1), repeat=len(fields)):
        paid = sum(j for u, v, j in edges if state[u] != state[v])
        paid += sum(h for h, spin in zip(fields, state) if spin)
        terms.append(((paid, sum(state)), 1))
    return gathered(terms)


def without_y(p):
    """A polynomial with 1 for y."""
    return gathered([((a, 0), c) for (a, _), c in p])


def clusters_of(count, pairs):
    """The clusters that edges join, as sorted lists of vertices."""
    names = list(range(count))
    for u, v in pairs:
        old, new = names[v], names[u]
        names = [new if name == old else name for name in names]
    return [[v for v in range(count) if names[v] == name] for name in sorted(set(names))]


def all_sets(edges):
    """All sets of edges, as tuples of their indexes."""
    indexes = range(len(edges))
    return [chosen for size in range(len(edges) + 1) for chosen in combinations(indexes, size)]


def plain_cluster_polynomial(count, edges):
    """The cluster polynomial, straight from point 14."""
    terms = []
    for chosen in all_sets(edges):
        found = clusters_of(count, [edges[e][:2] for e in chosen])
        terms.append(((len(found), len(chosen)), 1))
    return gathered(terms)


def plain_colour_sum(count, edges, colours):
    """The colour sum, straight from point 15."""
    terms = []
    for given in product(range(colours), repeat=count):
        terms.append(((sum(j for u, v, j in edges if given[u] != given[v]), 0), 1))
    return gathered(terms)


def plain_even_sets(count, edges):
    """All even sets, straight from point 16."""
    found = []
    for chosen in all_sets(edges):
        ends = [end for e in chosen for end in edges[e][:2]]
        if all(ends.count(v) % 2 == 0 for v in range(count)):
            found.append(chosen)
    return sorted(found)


def plain_width(edges, order):
    """The width of an order, straight from point 11."""
    sizes = []
    for k in range(len(order) + 1):
        inside, outside = order[:k], order[k:]
        frontier = [v for v in inside if any({v, w} == {*edge[:2]} for w in outside for edge in edges)]
        sizes.append(len(frontier))
    return max(sizes)


# Fields and edges: couplings of both signs, cycles, trees, vertices without edges, several parts.
SAMPLES = [
    ([0], []),
    ([-9], []),
    ([4, -2], []),
    ([0, 1], [(0, 1, 2)]),
    ([3, -5], [(0, 1, -9)]),
    ([0, 0, 0], [(0, 1, 1), (1, 2, 1)]),
    ([1, -2, 3], [(0, 1, 2), (0, 2, -3), (1, 2, 4)]),
    ([0, 0, 0], [(0, 1, 1), (0, 2, 1), (1, 2, -1)]),
    ([2, 0, -1, 5], [(0, 1, -2), (0, 3, 3), (1, 2, 7), (2, 3, -1)]),
    ([0, 0, 0, 0], [(0, 1, 1), (0, 2, -2), (0, 3, 3), (1, 2, -4), (1, 3, 5), (2, 3, -6)]),
    ([1, 1, -1, -1, 2], [(0, 4, 3), (1, 4, -2), (2, 4, 1), (3, 4, 9)]),
    ([0, 0, 0, 0, 0], [(0, 2, 2), (0, 4, 2), (1, 3, -5), (2, 4, -3)]),
    ([-3, 0, 2, 1, -1, 4], [(0, 1, 1), (0, 5, 2), (1, 2, -3), (1, 4, 4), (2, 3, -1), (3, 4, 6), (4, 5, -2)]),
    ([0, 0, 0, 0, 0, 0], [(0, 3, 1), (0, 4, -1), (0, 5, 2), (1, 3, -2), (1, 4, 3), (1, 5, -3), (2, 3, 4), (2, 4, 5)]),
    ([0, 2, 0, -1, 0, 3], [(u, v, (u * 5 + v * 3) % 7 - 3 or 4) for u, v in combinations(range(6), 2) if u + v != 5]),
    ([1, 0, 0, -2, 0, 0, 3], [(0, 1, 1), (1, 2, -1), (1, 6, 2), (2, 6, 2), (3, 4, -4), (3, 5, 5), (4, 5, 1)]),
]

# A ring of 12 vertices, and from each one an edge to the one two places further: 24 edges.
LARGEST_PAIRS = sorted(tuple(sorted((v, (v + step) % 12))) for v in range(12) for step in (1, 2))


def samples():
    return [Spins(list(fields), list(edges)) for fields, edges in SAMPLES]


def samples_without_field():
    return [Spins([0] * len(fields), list(edges)) for fields, edges in SAMPLES]


def largest(with_field):
    """Spins of the largest size, with couplings of both signs."""
    edges = [(u, v, (-1) ** k * (k % 9 + 1)) for k, (u, v) in enumerate(LARGEST_PAIRS)]
    return Spins([(v * 5) % 19 - 9 if with_field else 0 for v in range(12)], edges)
