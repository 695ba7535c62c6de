"""Pfaffians, good orientations of plane graphs, and the dimer sum by them."""

from math import lcm

from spinfield.errors import InvalidWeight, TooLarge
from spinfield.fractions import add, divide, raised, subtract
from spinfield.planes import faces

MOST_ROWS = 120
MOST_VERTICES = 16


def pfaffian(rows):
    """Returns the Pfaffian of a list of rows of fractions. Raises InvalidWeight, then TooLarge."""
    _check_rows(rows)
    size = len(rows)
    if size > MOST_ROWS:
        raise TooLarge("too many rows")
    if size & 1:
        return (0, 1)
    # Each product has size // 2 entries, so a common denominator is taken out so often.
    common = 1
    for row in rows:
        for _, denominator in row:
            common = lcm(common, denominator)
    table = [[numerator * (common // denominator) for numerator, denominator in row] for row in rows]
    return divide((_whole_pfaffian(table), 1), raised((common, 1), size // 2))


def _check_rows(rows):
    """Raises InvalidWeight if rows are no square, or an entry is not the negative of its mirror image."""
    if any(len(row) != len(rows) for row in rows):
        raise InvalidWeight("the table is not square")
    for i, row in enumerate(rows):
        for j in range(i + 1):
            numerator, denominator = row[j]
            if rows[j][i] != (-numerator, denominator):
                raise InvalidWeight("an entry is not the negative of its mirror image")


def _whole_pfaffian(table):
    """Returns the Pfaffian of a table of integers, of even size."""
    left = table
    sign = 1
    pivot = 1
    while left:
        places = [place for place, entry in enumerate(left[0]) if entry != 0]
        if not places:
            return 0
        if places[0] != 1:
            left = _exchanged(left, places[0])
            sign = -sign
        before, pivot = pivot, left[0][1]
        left = _reduced(left, before)
    return sign * pivot


def _exchanged(table, place):
    """Returns a table in which index 1 and a later one have changed their places."""
    order = list(range(len(table)))
    order[1], order[place] = place, 1
    return [[table[i][j] for j in order] for i in order]


def _reduced(table, before):
    """Returns a table without its first two indexes; before is what stood between the two that went before them."""
    # The new entry of i and j is the Pfaffian of all indexes that are gone, i and j. So
    # it is an integer, and the division leaves nothing over.
    top, second = table[0], table[1]
    size = len(table)
    reduced = [[0] * (size - 2) for _ in range(size - 2)]
    for i in range(2, size):
        for j in range(i + 1, size):
            entry = (top[1] * table[i][j] - top[i] * second[j] + top[j] * second[i]) // before
            reduced[i - 2][j - 2] = entry
            reduced[j - 2][i - 2] = -entry
    return reduced


def good_orientation(plane):
    """Returns a good orientation of a plane graph."""
    return oriented(plane, [1] * len(faces(plane)))


def oriented(plane, odd):
    """Returns an orientation along which an odd number of darts goes in each face but face 0 that has 1 in odd.

    In a face that has 0 there, the number is even.
    """
    found = faces(plane)
    orientation = [0] * len(plane.edges)
    # A face is set right by the edge to the face from which it was reached. Behind that
    # no edge of it is turned, since all faces reached from it were set right before.
    for face, edge in _links_to_faces(found)[::-1]:
        if many_along(found[face], orientation) & 1 != odd[face]:
            orientation[edge] = 1
    return tuple(orientation)


def _links_to_faces(found):
    """Returns a list with a pair (face, edge) for each face but face 0.

    The edge leads to a face from which this one was reached; the pair of that face, if
    it has one, stands before the one of this face.
    """
    sides = {dart: index for index, face in enumerate(found) for dart in face}
    reached = {0: True}
    waiting = [0]
    links = []
    while waiting:
        index = waiting.pop()
        for dart in found[index]:
            other = sides[dart ^ 1]
            if other not in reached:
                reached[other] = True
                waiting.append(other)
                links.append((other, dart // 2))
    return links


def many_along(face, orientation):
    """Returns the number of the darts of a face that go along an orientation."""
    return sum(1 for dart in face if orientation[dart // 2] == dart & 1)


def is_good_orientation(plane, orientation):
    """Returns True if a tuple is a good orientation of a plane graph, otherwise False."""
    if len(orientation) != len(plane.edges) or not all(number in (0, 1) for number in orientation):
        return False
    return all(many_along(face, orientation) & 1 == 1 for face in faces(plane)[1:])


def dimer_sum(plane, weights):
    """Returns the dimer sum of a plane graph, found by a Pfaffian. Raises InvalidWeight, then TooLarge."""
    if len(weights) != len(plane.edges):
        raise InvalidWeight("not a weight for each edge")
    if plane.count > MOST_VERTICES:
        raise TooLarge("too many vertices")
    orientation = good_orientation(plane)
    total = pfaffian(_led_table(plane, orientation, weights))
    # With 1 for all weights the dimer sum is not negative. So this tells the sign for
    # all other weights, too; and if there is no perfect matching, the total is 0.
    many = pfaffian(_led_table(plane, orientation, [(1, 1)] * len(weights)))
    return subtract((0, 1), total) if many[0] < 0 else total


def _led_table(plane, orientation, weights):
    """Returns the table of the weights between the vertices, negative against the orientation."""
    entries = []
    for (u, v), number, weight in zip(plane.edges, orientation, weights):
        start, end = (u, v) if number == 0 else (v, u)
        entries.append((start, end, weight))
    return skew_table(plane.count, entries)


def skew_table(size, entries):
    """Returns the table with the sums of the weights of entries (i, j, weight), and their negatives at (j, i)."""
    rows = [[(0, 1)] * size for _ in range(size)]
    for i, j, weight in entries:
        rows[i][j] = add(rows[i][j], weight)
        rows[j][i] = subtract(rows[j][i], weight)
    return rows
