"""Orders of vertices, and tables that go along them."""

from spinfield.errors import InvalidOrder
from spinfield.polynomials import ONE, plus, times


def check_order(spins, order):
    """Raises InvalidOrder if a list is no order of the vertices."""
    if sorted(order) != list(range(len(spins.fields))):
        raise InvalidOrder("not each vertex once")


def steps_along(edges, order):
    """Returns a list with a triple for each vertex of an order of the vertices that edges join.

    It has the vertex, the indexes of its edges to itself and to vertices before it,
    and the vertices that leave the frontier at it.
    """
    places = {vertex: place for place, vertex in enumerate(order)}
    leaving = {vertex: places[vertex] for vertex in order}
    backward = {vertex: [] for vertex in order}
    for index, edge in enumerate(edges):
        u, v = edge[:2]
        later = max(places[u], places[v])
        backward[order[later]].append(index)
        leaving[u] = max(leaving[u], later)
        leaving[v] = max(leaving[v], later)
    return [
        (vertex, backward[vertex], [other for other in order if leaving[other] == place])
        for place, vertex in enumerate(order)
    ]


def width_of(spins, order):
    """Returns the width of an order. Raises InvalidOrder if it is no order of the vertices."""
    check_order(spins, order)
    size = 0
    width = 0
    for _, _, leaving in steps_along(spins.edges, order):
        size += 1 - len(leaving)
        width = max(width, size)
    return width


def least_width(spins):
    """Returns the pair of the width of the spins and an order with this width."""
    return least_order(len(spins.fields), spins.edges)


def least_order(count, edges):
    """Returns the pair of the least width of an order of so many vertices and an order with this width."""
    near = _neighbours(count, edges)
    # The frontier depends on the set of the vertices before it alone, not on their
    # order; so the least width of each set comes from the sets with a vertex less.
    widths = [0]
    lasts = [0]
    for mask in range(1, 1 << count):
        inside = [v for v in range(count) if mask >> v & 1]
        least, last = min([(widths[mask ^ (1 << v)], v) for v in inside])
        widths.append(max(least, sum(1 for v in inside if near[v] & ~mask)))
        lasts.append(last)
    mask = (1 << count) - 1
    width = widths[mask]
    order = []
    while mask:
        order.append(lasts[mask])
        mask ^= 1 << lasts[mask]
    return width, tuple(order[::-1])


def _neighbours(count, edges):
    """Returns for each vertex the mask of the vertices to which it has an edge."""
    near = [0] * count
    for edge in edges:
        u, v = edge[:2]
        near[u] |= 1 << v
        near[v] |= 1 << u
    return near


def carried(spins, order, start, pay, merge):
    """Returns what a table along an order keeps behind all vertices; start is kept before the first.

    pay(kept, vertex, spin, price) is what becomes of kept where the next vertex has
    this spin and adds this price to the cost; merge(one, other) is kept where both are.
    """
    table = {(): start}
    front = []
    for vertex, edges, leaving in steps_along(spins.edges, order):
        links = _links(spins, front, vertex, edges)
        front.append(vertex)
        staying = [place for place, other in enumerate(front) if other not in leaving]
        grown = {}
        for key in table:
            for spin in (0, 1):
                price = spin * spins.fields[vertex] + sum(j for place, j in links if key[place] != spin)
                kept = pay(table[key], vertex, spin, price)
                longer = key + (spin,)
                target = tuple(longer[place] for place in staying)
                grown[target] = merge(grown[target], kept) if target in grown else kept
        table = grown
        front = [front[place] for place in staying]
    return table[()]


def _links(spins, front, vertex, edges):
    """Returns for edges of a vertex the pairs of the place of their other end in the frontier and the coupling."""
    links = []
    for index in edges:
        u, v, j = spins.edges[index]
        links.append((front.index(u if v == vertex else v), j))
    return links


def sum_by_transfer(spins, order):
    """Returns the partition polynomial, found along an order. Raises InvalidOrder."""
    check_order(spins, order)
    return carried(spins, order, ONE, _times_spin, plus)


def _times_spin(p, _, spin, price):
    """Returns a polynomial times what a vertex with this spin and this price gives."""
    return times(p, (((price, spin), 1),))


def least_by_transfer(spins, order):
    """Returns the pair of the least cost and the least state with it. Raises InvalidOrder."""
    check_order(spins, order)
    # Vertices that do not have their spin yet are down in all states that are kept
    # side by side, so these compare as they will when they are whole.
    start = (0, (0,) * len(spins.fields))
    return carried(spins, order, start, _with_spin, _lesser)


def _with_spin(kept, vertex, spin, price):
    """Returns a pair (cost, state) with the spin of a further vertex, which has this price."""
    paid, state = kept
    return paid + price, state[:vertex] + (spin,) + state[vertex + 1:]


def _lesser(one, other):
    """Returns the lesser one of two pairs (cost, state)."""
    return min(one, other)
