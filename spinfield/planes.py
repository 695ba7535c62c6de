"""Plane graphs: vertices, edges, and the order in which the darts turn around each vertex."""

from spinfield.errors import InvalidPlane

MOST_VERTICES = 100
MOST_EDGES = 160


class Plane:
    """A plane graph: the number of its vertices, its edges (u, v), and the turning order of each vertex."""

    def __init__(self, count, edges, turns):
        self.count = count
        self.edges = tuple(tuple(edge) for edge in edges)
        self.turns = tuple(tuple(turn) for turn in turns)
        _check_edges(self.count, self.edges)
        _check_turns(self.count, self.edges, self.turns)
        _check_together(self.count, self.edges)
        if len(faces(self)) != 2 - self.count + len(self.edges):
            raise InvalidPlane("the number of faces is not that of a plane graph")


def _check_edges(count, edges):
    """Raises InvalidPlane if there are too few or too many vertices or edges, or an end is not there."""
    if not 1 <= count <= MOST_VERTICES:
        raise InvalidPlane("too few or too many vertices")
    if len(edges) > MOST_EDGES:
        raise InvalidPlane("too many edges")
    for u, v in edges:
        if not (0 <= u < count and 0 <= v < count):
            raise InvalidPlane("an edge with an end that is not there")


def _check_turns(count, edges, turns):
    """Raises InvalidPlane if the turning orders are not those of all darts, each one at the vertex it leaves."""
    if len(turns) != count:
        raise InvalidPlane("not a turning order for each vertex")
    leaving = [[] for _ in turns]
    for index, (u, v) in enumerate(edges):
        leaving[u].append(2 * index)
        leaving[v].append(2 * index + 1)
    for turn, darts in zip(turns, leaving):
        if sorted(turn) != darts:
            raise InvalidPlane("a turning order without just the darts of its vertex")


def _check_together(count, edges):
    """Raises InvalidPlane if the vertices do not hang together."""
    near = [[] for _ in range(count)]
    for u, v in edges:
        near[u].append(v)
        near[v].append(u)
    reached = {0: True}
    waiting = [0]
    while waiting:
        vertex = waiting.pop()
        for other in near[vertex]:
            if other not in reached:
                reached[other] = True
                waiting.append(other)
    if len(reached) < count:
        raise InvalidPlane("the vertices do not hang together")


def faces(plane):
    """Returns the list of all faces in ascending order."""
    if not plane.edges:
        return [()]
    following = {}
    for turn in plane.turns:
        for dart, behind in zip(turn, turn[1:] + turn[:1]):
            following[dart ^ 1] = behind
    found = []
    # The darts are asked in order, so each face is found by its least dart, and the
    # faces are found in order.
    for least in range(2 * len(plane.edges)):
        face = []
        dart = least
        while dart in following:
            face.append(dart)
            dart = following.pop(dart)
        if face:
            found.append(tuple(face))
    return found


def dual(plane):
    """Returns the dual of a plane graph. Raises InvalidPlane if there are more than 100 faces."""
    turns = faces(plane)
    sides = {dart: index for index, face in enumerate(turns) for dart in face}
    edges = [(sides[2 * index], sides[2 * index + 1]) for index in range(len(plane.edges))]
    return Plane(len(turns), edges, turns)


def with_leaf(plane, vertex, place):
    """Returns the plane graph with an edge from a vertex to a further one. Raises InvalidPlane."""
    dart = 2 * len(plane.edges)
    turns = _with_dart(plane.turns, vertex, place, dart)
    return Plane(plane.count + 1, plane.edges + ((vertex, plane.count),), turns + ((dart + 1,),))


def with_edge(plane, first, place, second, other):
    """Returns the plane graph with a further edge between two vertices. Raises InvalidPlane."""
    dart = 2 * len(plane.edges)
    turns = _with_dart(plane.turns, first, place, dart)
    turns = _with_dart(turns, second, other, dart + 1)
    return Plane(plane.count, plane.edges + ((first, second),), turns)


def _with_dart(turns, vertex, place, dart):
    """Returns turning orders with a further dart at a place of a vertex. Raises InvalidPlane."""
    if not 0 <= vertex < len(turns):
        raise InvalidPlane("a vertex that is not there")
    turn = turns[vertex]
    if not 0 <= place <= len(turn):
        raise InvalidPlane("a place that is not there")
    return turns[:vertex] + (turn[:place] + (dart,) + turn[place:],) + turns[vertex + 1:]
