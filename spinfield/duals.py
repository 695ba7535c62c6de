"""The sums of plane graphs with couplings: by states, by cuts, by even sets, and by the dual."""

from spinfield.errors import InvalidWeight, TooLarge
from spinfield.loops import sum_over_even_sets
from spinfield.planes import dual, faces
from spinfield.polynomials import ONE, plus, polynomial

MOST_VERTICES = 12
MOST_EDGES = 24
MOST_FACES = 12
MOST_SIZE = 9


def check_couplings(plane, couplings):
    """Raises InvalidWeight if there is no coupling from -9 to 9 for each edge, then TooLarge."""
    _check_each(plane, couplings)
    check_size(plane)


def _check_each(plane, couplings):
    """Raises InvalidWeight if there is no coupling from -9 to 9 for each edge."""
    if len(couplings) != len(plane.edges):
        raise InvalidWeight("not a coupling for each edge")
    if not all(-MOST_SIZE <= j <= MOST_SIZE for j in couplings):
        raise InvalidWeight("a coupling is too large or too small")


def check_size(plane):
    """Raises TooLarge if there are more than 12 vertices or 24 edges."""
    if plane.count > MOST_VERTICES or len(plane.edges) > MOST_EDGES:
        raise TooLarge("too many vertices or edges")


def plane_sum(plane, couplings):
    """Returns the plane sum, found by states. Raises InvalidWeight, then TooLarge."""
    check_couplings(plane, couplings)
    return _sum_by_costs(costs(plane, couplings))


def cut_sum(plane, couplings):
    """Returns the sum over all cuts. Raises InvalidWeight, then TooLarge."""
    check_couplings(plane, couplings)
    # Of the two states of a cut one has the last vertex down, and these come first.
    paid = costs(plane, couplings)
    return _sum_by_costs(paid[:len(paid) // 2])


def costs(plane, couplings):
    """Returns the list of the costs of all states, in the order of the masks of their vertices that are up."""
    paid = []
    for mask in range(1 << plane.count):
        paid.append(sum(j for (u, v), j in zip(plane.edges, couplings) if (mask >> u ^ mask >> v) & 1))
    return paid


def _sum_by_costs(paid):
    """Returns the sum of x to the power of each of some costs."""
    return polynomial([((price, 0), 1) for price in paid])


def even_sum(plane, couplings):
    """Returns the sum over all even sets of edges. Raises InvalidWeight, then TooLarge."""
    check_couplings(plane, couplings)
    weights = [(ONE, (((j, 0), 1),)) for j in couplings]
    return sum_over_even_sets(plane.count, plane.edges, weights)


def sum_by_dual(plane, couplings):
    """Returns the plane sum, found by the even sets of the dual. Raises InvalidWeight, then TooLarge."""
    _check_each(plane, couplings)
    # The graph may have more vertices here than elsewhere, its dual may not.
    if len(faces(plane)) > MOST_FACES:
        raise TooLarge("too many faces")
    cuts = even_sum(dual(plane), couplings)
    return plus(cuts, cuts)
