"""What several tests need: checks of kinds, a few spins and plane graphs, and sums found in the plainest way."""

import random
import time
from fractions import Fraction
from itertools import combinations, product
from math import atan2, cos, pi, sin

from spinfield.planes import Plane
from spinfield.spins import Spins


def is_integer(n):
    return type(n) is int


def is_fraction(f):
    """True for a tuple (n, d) in lowest terms with d of at least 1."""
    if not (type(f) is tuple and len(f) == 2 and all(is_integer(n) for n in f) and f[1] >= 1):
        return False
    exact = Fraction(f[0], f[1])
    return (exact.numerator, exact.denominator) == f


def is_polynomial(p):
    """True for a tuple of terms as the document has them."""
    if type(p) is not tuple:
        return False
    for term in p:
        if not (type(term) is tuple and len(term) == 2 and is_integer(term[1]) and term[1] != 0):
            return False
        if not (type(term[0]) is tuple and len(term[0]) == 2 and all(is_integer(n) for n in term[0])):
            return False
    pairs = [pair for pair, _ in p]
    return all(before < behind for before, behind in zip(pairs, pairs[1:]))


def gathered(terms):
    """The polynomial of terms, by a way of its own."""
    found = {}
    for pair, c in terms:
        found[pair] = found.get(pair, 0) + c
    return tuple(sorted((pair, c) for pair, c in found.items() if c != 0))


def product_of(factors):
    """The product of polynomials, by a way of its own."""
    result = gathered([((0, 0), 1)])
    for p in factors:
        result = gathered([((a + d, b + e), c * f) for (a, b), c in result for (d, e), f in p])
    return result


def plain_value(p, x, y):
    """The value of a polynomial at two fractions, as one of Python's own fractions."""
    return sum((c * Fraction(*x) ** a * Fraction(*y) ** b for (a, b), c in p), Fraction(0))


def plain_sum(fields, edges):
    """The partition polynomial, straight from point 9."""
    terms = []
    for state in product((0, 1), repeat=len(fields)):
        paid = sum(j for u, v, j in edges if state[u] != state[v])
        paid += sum(h for h, spin in zip(fields, state) if spin)
        terms.append(((paid, sum(state)), 1))
    return gathered(terms)


def without_y(p):
    """A polynomial with 1 for y."""
    return gathered([((a, 0), c) for (a, _), c in p])


def clusters_of(count, pairs):
    """The clusters that edges join, as sorted lists of vertices."""
    names = list(range(count))
    for u, v in pairs:
        old, new = names[v], names[u]
        names = [new if name == old else name for name in names]
    return [[v for v in range(count) if names[v] == name] for name in sorted(set(names))]


def all_sets(edges):
    """All sets of edges, as tuples of their indexes."""
    indexes = range(len(edges))
    return [chosen for size in range(len(edges) + 1) for chosen in combinations(indexes, size)]


def plain_cluster_polynomial(count, edges):
    """The cluster polynomial, straight from point 14."""
    terms = []
    for chosen in all_sets(edges):
        found = clusters_of(count, [edges[e][:2] for e in chosen])
        terms.append(((len(found), len(chosen)), 1))
    return gathered(terms)


def plain_colour_sum(count, edges, colours):
    """The colour sum, straight from point 15."""
    terms = []
    for given in product(range(colours), repeat=count):
        terms.append(((sum(j for u, v, j in edges if given[u] != given[v]), 0), 1))
    return gathered(terms)


def plain_even_sets(count, edges):
    """All even sets, straight from point 16."""
    found = []
    for chosen in all_sets(edges):
        ends = [end for e in chosen for end in edges[e][:2]]
        if all(ends.count(v) % 2 == 0 for v in range(count)):
            found.append(chosen)
    return sorted(found)


def plain_width(edges, order):
    """The width of an order, straight from point 11."""
    sizes = []
    for k in range(len(order) + 1):
        inside, outside = order[:k], order[k:]
        frontier = [v for v in inside if any({v, w} == {*edge[:2]} for w in outside for edge in edges)]
        sizes.append(len(frontier))
    return max(sizes)


# Fields and edges: couplings of both signs, cycles, trees, vertices without edges, several parts.
SAMPLES = [
    ([0], []),
    ([-9], []),
    ([4, -2], []),
    ([0, 1], [(0, 1, 2)]),
    ([3, -5], [(0, 1, -9)]),
    ([0, 0, 0], [(0, 1, 1), (1, 2, 1)]),
    ([1, -2, 3], [(0, 1, 2), (0, 2, -3), (1, 2, 4)]),
    ([0, 0, 0], [(0, 1, 1), (0, 2, 1), (1, 2, -1)]),
    ([2, 0, -1, 5], [(0, 1, -2), (0, 3, 3), (1, 2, 7), (2, 3, -1)]),
    ([0, 0, 0, 0], [(0, 1, 1), (0, 2, -2), (0, 3, 3), (1, 2, -4), (1, 3, 5), (2, 3, -6)]),
    ([1, 1, -1, -1, 2], [(0, 4, 3), (1, 4, -2), (2, 4, 1), (3, 4, 9)]),
    ([0, 0, 0, 0, 0], [(0, 2, 2), (0, 4, 2), (1, 3, -5), (2, 4, -3)]),
    ([-3, 0, 2, 1, -1, 4], [(0, 1, 1), (0, 5, 2), (1, 2, -3), (1, 4, 4), (2, 3, -1), (3, 4, 6), (4, 5, -2)]),
    ([0, 0, 0, 0, 0, 0], [(0, 3, 1), (0, 4, -1), (0, 5, 2), (1, 3, -2), (1, 4, 3), (1, 5, -3), (2, 3, 4), (2, 4, 5)]),
    ([0, 2, 0, -1, 0, 3], [(u, v, (u * 5 + v * 3) % 7 - 3 or 4) for u, v in combinations(range(6), 2) if u + v != 5]),
    ([1, 0, 0, -2, 0, 0, 3], [(0, 1, 1), (1, 2, -1), (1, 6, 2), (2, 6, 2), (3, 4, -4), (3, 5, 5), (4, 5, 1)]),
]

# A ring of 12 vertices, and from each one an edge to the one two places further: 24 edges.
LARGEST_PAIRS = sorted(tuple(sorted((v, (v + step) % 12))) for v in range(12) for step in (1, 2))


def samples():
    return [Spins(list(fields), list(edges)) for fields, edges in SAMPLES]


def samples_without_field():
    return [Spins([0] * len(fields), list(edges)) for fields, edges in SAMPLES]


def largest(with_field):
    """Spins of the largest size, with couplings of both signs."""
    edges = [(u, v, (-1) ** k * (k % 9 + 1)) for k, (u, v) in enumerate(LARGEST_PAIRS)]
    return Spins([(v * 5) % 19 - 9 if with_field else 0 for v in range(12)], edges)


def plain_faces(edges, turns):
    """All faces, straight from point 17."""
    if not edges:
        return [()]
    behind = {turn[k]: turn[(k + 1) % len(turn)] for turn in turns for k in range(len(turn))}
    found = []
    for least in range(2 * len(edges)):
        face = [least]
        while behind[face[-1] ^ 1] != least:
            face.append(behind[face[-1] ^ 1])
        if min(face) == least:
            found.append(tuple(face))
    return sorted(found)


def plain_state_costs(count, edges, couplings):
    """A dict from all states of a graph to their costs, straight from point 19."""
    return {
        state: sum(j for (u, v), j in zip(edges, couplings) if state[u] != state[v])
        for state in product((0, 1), repeat=count)
    }


def plain_plane_sum(count, edges, couplings):
    """The plane sum, straight from point 19."""
    return gathered([((paid, 0), 1) for paid in plain_state_costs(count, edges, couplings).values()])


def plain_cut_sum(count, edges, couplings):
    """The cut sum, straight from point 20."""
    cuts = set()
    for state in product((0, 1), repeat=count):
        cuts.add(tuple(e for e, (u, v) in enumerate(edges) if state[u] != state[v]))
    return gathered([((sum(couplings[e] for e in cut), 0), 1) for cut in cuts])


def plain_even_sum(count, edges, couplings):
    """The even sum, straight from point 20."""
    return gathered([((sum(couplings[e] for e in chosen), 0), 1) for chosen in plain_even_sets(count, edges)])


def plain_even_value(count, edges, pairs):
    """The even value, straight from point 24, as one of Python's own fractions."""
    total = Fraction(0)
    for chosen in plain_even_sets(count, edges):
        part = Fraction(1)
        for e, (taken, out) in enumerate(pairs):
            part *= Fraction(*(taken if e in chosen else out))
        total += part
    return total


def plain_matchings(edges):
    """All matchings, straight from point 21, as tuples of indexes of edges."""
    found = [()]
    for e, edge in enumerate(edges):
        if edge[0] != edge[1]:
            found += [chosen + (e,) for chosen in found if not any({*edge[:2]} & {*edges[f][:2]} for f in chosen)]
    return found


def plain_dimer_sum(count, edges):
    """The dimer sum, straight from point 21, as one of Python's own fractions."""
    total = Fraction(0)
    for chosen in plain_matchings(edges):
        if 2 * len(chosen) == count:
            part = Fraction(1)
            for e in chosen:
                part *= Fraction(*edges[e][2])
            total += part
    return total


def exact(number):
    """A fraction as the document has it, from one of Python's own or an integer."""
    one = Fraction(number)
    return (one.numerator, one.denominator)


def drawn(points, edges):
    """A plane graph whose edges are drawn straight between points, no two of them alike."""
    turns = []
    for v, (x, y) in enumerate(points):
        leaving = []
        for e, ends in enumerate(edges):
            if v in ends:
                b = ends.index(v)
                far = points[ends[1 - b]]
                leaving.append((atan2(far[1] - y, far[0] - x), 2 * e + b))
        turns.append(tuple(dart for _, dart in sorted(leaving)))
    return len(points), list(edges), turns


def drawn_grid(rows, columns):
    points = [(column, row) for row in range(rows) for column in range(columns)]
    down = [(v, v + columns) for v in range((rows - 1) * columns)]
    along = [(v, v + 1) for v in range(rows * columns) if (v + 1) % columns]
    return drawn(points, along + down)


def around(count):
    """So many points around the origin."""
    return [(cos(2 * pi * k / count), sin(2 * pi * k / count)) for k in range(count)]


def drawn_ring(count):
    return drawn(around(count), [(v, (v + 1) % count) for v in range(count)])


def drawn_wheel(spokes):
    """A ring, and a vertex in the middle with an edge to each of its vertices."""
    edges = [(v, (v + 1) % spokes) for v in range(spokes)] + [(spokes, v) for v in range(spokes)]
    return drawn(around(spokes) + [(0, 0)], edges)


def three_squares():
    """Three squares, each inside the next one, with edges between them: 12 vertices and 24 edges."""
    points = [(size * x, size * y) for size in (1, 2, 3) for x, y in ((1, 1), (-1, 1), (-1, -1), (1, -1))]
    edges = [(4 * k + v, 4 * k + (v + 1) % 4) for k in range(3) for v in range(4)]
    edges += [(v, v + 4) for v in range(8)] + [(v, 4 + (v + 1) % 4) for v in range(4)]
    return drawn(points, edges)


def row_of_vertices(count):
    turns = [tuple(dart for dart in (2 * v - 1, 2 * v) if 0 <= dart < 2 * count - 2) for v in range(count)]
    return count, [(v, v + 1) for v in range(count - 1)], turns


def crowd(count, many):
    """A row of vertices, and loops at the last one: so many vertices and edges."""
    count, edges, turns = row_of_vertices(count)
    for _ in range(many - len(edges)):
        dart = 2 * len(edges)
        edges.append((count - 1, count - 1))
        turns[-1] = turns[-1] + (dart, dart + 1)
    return count, edges, turns


def star_of_vertices(count):
    edges = [(0, v) for v in range(1, count)]
    return count, edges, [tuple(range(0, 2 * count - 2, 2))] + [(2 * v - 1,) for v in range(1, count)]


def side_by_side(many):
    """So many edges between two vertices."""
    return 2, [(0, 1)] * many, [tuple(range(0, 2 * many, 2)), tuple(range(2 * many - 1, 0, -2))]


def nested_loops(many):
    """So many loops at one vertex, each inside the one before it."""
    return 1, [(0, 0)] * many, [tuple(range(0, 2 * many, 2)) + tuple(range(2 * many - 1, 0, -2))]


def loops_in_a_row(many):
    """So many loops at one vertex, none inside another one."""
    return 1, [(0, 0)] * many, [tuple(range(2 * many))]


def grown(seed, leaves, others):
    """A plane graph with loops and several edges with the same ends, the same one for the same seed."""
    choose = random.Random(seed).randrange
    edges, turns = [], [[]]
    while leaves or others:
        first = choose(len(turns))
        leaf = choose(leaves + others) < leaves
        second = len(turns) if leaf else choose(len(turns))
        dart = 2 * len(edges)
        tried = [list(turn) for turn in turns] + ([[]] if leaf else [])
        tried[first].insert(choose(len(tried[first]) + 1), dart)
        tried[second].insert(choose(len(tried[second]) + 1), dart + 1)
        more = edges + [(first, second)]
        if len(plain_faces(more, tried)) == 2 - len(tried) + len(more):
            edges, turns = more, tried
            leaves, others = leaves - leaf, others - (not leaf)
    return len(turns), edges, [tuple(turn) for turn in turns]


# What a plane graph is made of: trees, rings, loops, several edges with the same ends, and mixtures of them.
PLANES = [
    (1, [], [()]),
    (1, [(0, 0)], [(0, 1)]),
    (1, [(0, 0)], [(1, 0)]),
    nested_loops(3),
    loops_in_a_row(3),
    row_of_vertices(2),
    (2, [(1, 0)], [(1,), (0,)]),
    row_of_vertices(5),
    star_of_vertices(5),
    side_by_side(2),
    side_by_side(3),
    side_by_side(5),
    # A loop in the middle of an edge, and one around its end.
    (2, [(0, 1), (0, 0)], [(0, 2, 3), (1,)]),
    (2, [(0, 0), (1, 0)], [(0, 3, 1), (2,)]),
    drawn_ring(3),
    drawn_ring(4),
    drawn_ring(6),
    drawn_wheel(4),
    drawn_wheel(5),
    drawn_grid(2, 3),
    drawn_grid(2, 4),
    drawn_grid(3, 3),
    drawn([(0, 0), (4, 0), (0, 4), (1, 1)], list(combinations(range(4), 2))),
] + [grown(seed, 1 + seed % 6, 1 + seed * 3 % 7) for seed in range(24)]


def planes():
    return [Plane(count, list(edges), list(turns)) for count, edges, turns in PLANES]


def some_couplings(many, seed):
    """So many couplings of both signs, 0 among them, the same ones for the same seed."""
    choose = random.Random(1000 + seed).randrange
    return [choose(19) - 9 if choose(4) else 0 for _ in range(many)]


def wrong_couplings(many):
    """Lists that are no couplings for so many edges: too short, too long, or with one that is too large."""
    wrong = [[0] * (many + 1), [0] * (many + 2)] + ([[0] * (many - 1), []] if many else [])
    for place in range(many):
        wrong += [[0] * place + [j] + [0] * (many - place - 1) for j in (-100, -10, 10, 11)]
    return wrong


def timed(function, *arguments):
    """What a function returns, and the seconds that it needs."""
    start = time.monotonic()
    result = function(*arguments)
    return result, time.monotonic() - start


def row_times(rows):
    """The row of the product of the polynomials that rows stand for."""
    result = [1]
    for row in rows:
        longer = [0] * (len(result) + len(row) - 1)
        for i, a in enumerate(result):
            for j, b in enumerate(row):
                longer[i + j] += a * b
        result = longer
    return tuple(result)


def row_of(roots, factor=1):
    """A row with roots, pairs (re, im); with a root that is not real its mirror image is a root, too."""
    rows = [(factor,)]
    for re, im in roots:
        re, im = Fraction(re), Fraction(im)
        entries = [-re, 1] if im == 0 else [re * re + im * im, -2 * re, 1]
        multiple = 1
        for entry in entries:
            multiple *= Fraction(entry).denominator
        rows.append([int(entry * multiple) for entry in entries])
    return row_times(rows)


def all_roots(roots):
    """The set of all roots of row_of."""
    pairs = [(Fraction(re), Fraction(im)) for re, im in roots]
    return set(pairs) | {(re, -im) for re, im in pairs}


def near_roots(row):
    """Numbers near to the roots of a row that has none of them repeatedly, found by steps that come to all at once."""
    last = max(row, key=abs)
    monic = [complex(Fraction(entry, last)) / complex(Fraction(row[-1], last)) for entry in row]
    size = 1 + max(abs(entry) for entry in monic[:-1]) ** 0.5
    found = [size * (0.4 + 0.9j) ** k for k in range(len(row) - 1)]
    for _ in range(2000):
        moved = []
        for k, z in enumerate(found):
            worth = 0
            for entry in reversed(monic):
                worth = worth * z + entry
            for other in moved + found[k + 1:]:
                worth /= z - other
            moved.append(z - worth)
        done = max(abs(z - old) for z, old in zip(moved, found)) < 1e-13
        found = moved
        if done:
            return found
    raise AssertionError("no roots were found")


def plain_weights(fields, edges, x, y):
    """What point 36 has above the line, for all states in order, as Python's own fractions."""
    weights = []
    for state in product((0, 1), repeat=len(fields)):
        paid = sum(j for u, v, j in edges if state[u] != state[v])
        paid += sum(h for h, spin in zip(fields, state) if spin)
        weights.append(Fraction(*x) ** paid * Fraction(*y) ** sum(state))
    return weights


def is_table(table, states):
    """True for a table of moves with so many states, as point 37 has it."""
    if not (type(table) is tuple and len(table) == states and all(type(row) is tuple for row in table)):
        return False
    for row in table:
        if not all(type(pair) is tuple and len(pair) == 2 and is_integer(pair[0]) for pair in row):
            return False
        if not all(is_fraction(chance) and chance[0] > 0 for _, chance in row):
            return False
        indexes = [index for index, _ in row]
        if not all(0 <= index < states for index in indexes) or indexes != sorted(set(indexes)):
            return False
        if sum(Fraction(*chance) for _, chance in row) != 1:
            return False
    return True


def square_of(table):
    """The chances of a table, row by row, with 0 where it has no pair."""
    square = [[Fraction(0)] * len(table) for _ in table]
    for index, row in enumerate(table):
        for other, chance in row:
            square[index][other] = Fraction(*chance)
    return square


# Spins of at most 6 vertices and 10 edges.
SMALL = [(fields, edges) for fields, edges in SAMPLES if len(fields) <= 6 and len(edges) <= 10]


def small_samples():
    return [Spins(list(fields), list(edges)) for fields, edges in SMALL]


def small_ferro(with_field):
    """The small spins without negative couplings."""
    return [
        Spins(list(fields) if with_field else [0] * len(fields), [(u, v, abs(j)) for u, v, j in edges])
        for fields, edges in SMALL
    ]


def dense(count, many, size, field):
    """Spins with so many of the first edges, couplings from 1 to a size, and fields up to a size of both signs."""
    edges = [(u, v, 1 + k % size) for k, (u, v) in enumerate(combinations(range(count), 2))][:many]
    return Spins([(v * 7) % (2 * field + 1) - field for v in range(count)], edges)
