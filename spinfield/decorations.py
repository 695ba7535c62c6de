"""The even value and the plane sum of a plane graph, by the dimers of another graph."""

from spinfield.duals import check_couplings, check_size
from spinfield.errors import InvalidWeight, TooLarge
from spinfield.fractions import add, multiply, raised, subtract
from spinfield.pfaffians import oriented, pfaffian, skew_table
from spinfield.planes import faces
from spinfield.polynomials import polynomial

MOST_TOGETHER = 40


def even_value(plane, pairs):
    """Returns the even value for pairs (in, out), found by a Pfaffian. Raises InvalidWeight, then TooLarge."""
    if len(pairs) != len(plane.edges):
        raise InvalidWeight("not a pair for each edge")
    check_size(plane)
    # Each dart is an end. A dimer on the two ends of an edge leaves it out of the set;
    # the ends of the edges of the set are paired at their vertices. All ends at a vertex
    # are joined with each other, the earlier one leading to the later: the Pfaffian of
    # any even number of them is 1, so no vertex has to be taken apart.
    orientation = oriented(plane, _odd_faces(plane))
    entries = _entries_at_vertices(plane, pairs)
    for index, (_, out) in enumerate(pairs):
        number = orientation[index]
        entries.append((2 * index + number, 2 * index + 1 - number, out))
    total = pfaffian(skew_table(2 * len(pairs), entries))
    # The sign is told by the empty set, whose pairs of ends stand side by side in the
    # table, each one with a minus where the second end leads to the first.
    return subtract((0, 1), total) if sum(orientation) & 1 else total


def _entries_at_vertices(plane, pairs):
    """Returns the entries for each two ends at a vertex, the earlier one in the turning order first."""
    # An edge of a set takes its weight from one of its ends.
    weights = []
    for taken, _ in pairs:
        weights += [taken, (1, 1)]
    entries = []
    for turn in plane.turns:
        for place, first in enumerate(turn):
            for second in turn[place + 1:]:
                entries.append((first, second, multiply(weights[first], weights[second])))
    return entries


def _odd_faces(plane):
    """Returns for each face 1 if an odd number of its darts has to go along the orientation, otherwise 0."""
    places = {dart: place for turn in plane.turns for place, dart in enumerate(turn)}
    odd = []
    for face in faces(plane):
        # Behind each dart, the way around the face goes from one end at a vertex to the
        # next one; with these steps, an odd number has to go along.
        steps = list(zip(face, face[1:] + face[:1]))
        along = sum(1 for dart, behind in steps if places[dart ^ 1] < places[behind])
        odd.append((along + 1) & 1)
    return odd


def plane_value(plane, couplings, x):
    """Returns the value of the plane sum at a fraction that is not 0. Raises InvalidWeight, then TooLarge."""
    check_couplings(plane, couplings)
    pairs = []
    for j in couplings:
        weight = raised(x, j)
        pairs.append((subtract((1, 1), weight), add((1, 1), weight)))
    return multiply(even_value(plane, pairs), raised((2, 1), plane.count - len(pairs)))


def sum_by_dimers(plane, couplings):
    """Returns the plane sum, found by Pfaffians at several numbers. Raises InvalidWeight, then TooLarge."""
    check_couplings(plane, couplings)
    size = sum(abs(j) for j in couplings)
    if size > MOST_TOGETHER:
        raise TooLarge("the couplings are too large together")
    least = sum(j for j in couplings if j < 0)
    values = []
    for x in range(1, size + 2):
        found = multiply(plane_value(plane, couplings, (x, 1)), raised((x, 1), -least))
        values.append(found[0])
    return polynomial([((least + a, 0), c) for a, c in enumerate(_coefficients(values))])


def _coefficients(values):
    """Returns the coefficients of the polynomial of integers that has so many values at 1, 2, .., a list."""
    # It is a sum of numbers times the product of x - 1, x - 2, .., up to x - k; these
    # numbers are the first ones of the differences of order k, divided step by step.
    firsts = []
    left = values
    for order in range(1, len(values) + 1):
        firsts.append(left[0])
        left = [(behind - before) // order for before, behind in zip(left, left[1:])]
    coefficients = []
    for order in range(len(values), 0, -1):
        coefficients = [a - order * b for a, b in zip([0] + coefficients, coefficients + [0])]
        coefficients[0] += firsts[order - 1]
    return coefficients
