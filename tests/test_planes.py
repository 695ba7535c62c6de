"""Points 17 and 18, and spinfield/planes.py."""

import unittest

from helper import (
    PLANES, drawn_grid, drawn_ring, is_integer, loops_in_a_row, nested_loops, plain_faces, planes, row_of_vertices,
    side_by_side, star_of_vertices, timed,
)
from spinfield.errors import InvalidPlane
from spinfield.planes import Plane, dual, faces, with_edge, with_leaf

TRIANGLE = (3, [(0, 1), (1, 2), (2, 0)], [(0, 5), (2, 1), (4, 3)])


def parts(plane):
    return plane.count, plane.edges, plane.turns


def as_tuples(count, edges, turns):
    return count, tuple(edges), tuple(turns)


def double_row(count, many):
    """Two vertices with many edges between them, and behind them a row of further vertices."""
    count, edges, turns = row_of_vertices(count)
    for _ in range(many - len(edges)):
        dart = 2 * len(edges)
        edges.append((0, 1))
        turns[0] = turns[0] + (dart,)
        turns[1] = (dart + 1,) + turns[1]
    return count, edges, turns


class Constructor(unittest.TestCase):
    def refused(self, count, edges, turns):
        with self.subTest(count=count, edges=edges, turns=turns), self.assertRaises(InvalidPlane):
            Plane(count, edges, turns)

    def test_attributes_are_what_was_handed_in(self):
        for count, edges, turns in PLANES + [TRIANGLE]:
            plane = Plane(count, edges, turns)
            self.assertTrue(is_integer(plane.count))
            self.assertEqual(parts(plane), as_tuples(count, edges, turns))
            self.assertIs(type(plane.edges), tuple)
            self.assertIs(type(plane.turns), tuple)
            self.assertTrue(all(type(row) is tuple for row in plane.edges + plane.turns))

    def test_turning_orders_stay_turned_as_they_were(self):
        for turn in ((0, 5), (5, 0)):
            self.assertEqual(Plane(3, TRIANGLE[1], [turn, (2, 1), (4, 3)]).turns, (turn, (2, 1), (4, 3)))

    def test_lists_stay_as_they_were_and_may_change_later(self):
        edges, turns = [(0, 1), (1, 2), (2, 0)], [(0, 5), (2, 1), (4, 3)]
        plane = Plane(3, edges, turns)
        self.assertEqual((edges, turns), ([(0, 1), (1, 2), (2, 0)], [(0, 5), (2, 1), (4, 3)]))
        edges.append((0, 0))
        turns[0] = (1,)
        turns.clear()
        self.assertEqual(parts(plane), as_tuples(*TRIANGLE))

    def test_lists_within_lists_are_copied_too(self):
        edges, turns = [[0, 1]], [[0], [1]]
        plane = Plane(2, edges, turns)
        edges[0][1] = 0
        turns[0].append(7)
        self.assertEqual(parts(plane), (2, ((0, 1),), ((0,), (1,))))

    def test_numbers_of_vertices(self):
        for count in (1, 2, 99, 100):
            self.assertEqual(Plane(*row_of_vertices(count)).count, count)
        for count in (101, 102, 150):
            self.refused(*row_of_vertices(count))
            self.refused(*star_of_vertices(count))
        self.refused(0, [], [])
        self.refused(0, [], [()])
        self.refused(-1, [], [])
        self.refused(10 ** 9, [], [()])

    def test_numbers_of_edges(self):
        for maker in (side_by_side, nested_loops, loops_in_a_row):
            for many in (159, 160):
                self.assertEqual(len(Plane(*maker(many)).edges), many)
            for many in (161, 170):
                self.refused(*maker(many))
        self.assertEqual(len(faces(Plane(*double_row(100, 160)))), 62)
        self.refused(*double_row(100, 161))

    def test_ends_that_are_not_there(self):
        for edge in ((0, 2), (2, 0), (0, -1), (-1, 0), (-2, 1), (0, 100)):
            self.refused(2, [edge], [(0,), (1,)])
        self.refused(2, [(-1, 0)], [(1,), (0,)])
        self.refused(1, [(0, 1)], [(0, 1)])
        self.refused(1, [(-1, -1)], [(0, 1)])
        self.refused(3, [(0, 1), (1, 2), (2, 3)], TRIANGLE[2])

    def test_too_few_and_too_many_turning_orders(self):
        count, edges, turns = TRIANGLE
        self.refused(count, edges, turns[:2])
        self.refused(count, edges, turns + [()])
        self.refused(count, edges, [])
        self.refused(1, [], [])
        self.refused(1, [], [(), ()])
        self.refused(2, [(0, 1)], [(0, 1)])

    def test_darts_at_wrong_places(self):
        count, edges, turns = TRIANGLE
        for turn in (
            (), (0,), (5,), (0, 0), (5, 5), (0, 5, 5), (0, 0, 5), (0, 5, 6), (0, 5, -1), (0, 6), (-1, 5), (0, 1),
            (0, 5, 1), (1, 4), (0, 4), (0, 5, 0, 5),
        ):
            self.refused(count, edges, [turn] + turns[1:])
        # Each dart is there once, but two of them at the vertex to which they lead.
        self.refused(count, edges, [(1, 5), (2, 0), (4, 3)])
        self.refused(count, edges, [(2, 1), (0, 5), (4, 3)])
        self.refused(1, [], [(0,)])
        self.refused(1, [(0, 0)], [(0,)])
        self.refused(1, [(0, 0)], [(0, 0)])
        self.refused(2, [(0, 1)], [(1,), (0,)])

    def test_vertices_that_do_not_hang_together(self):
        self.refused(2, [], [(), ()])
        self.refused(2, [(0, 0)], [(0, 1), ()])
        self.refused(2, [(0, 0), (1, 1)], [(0, 1), (2, 3)])
        self.refused(3, [(0, 1)], [(0,), (1,), ()])
        self.refused(3, [(1, 2)], [(), (0,), (1,)])
        self.refused(4, [(0, 1), (2, 3)], [(0,), (1,), (2,), (3,)])
        self.refused(4, TRIANGLE[1], TRIANGLE[2] + [()])
        # Two loops that cross each other, and a loop aside: there are as many faces as told.
        self.assertEqual(len(plain_faces([(0, 0), (0, 0), (1, 1)], [(0, 2, 1, 3), (4, 5)])), 3)
        self.refused(2, [(0, 0), (0, 0), (1, 1)], [(0, 2, 1, 3), (4, 5)])

    def test_a_number_of_faces_that_is_not_as_told(self):
        # Two loops that cross each other.
        self.refused(1, [(0, 0), (0, 0)], [(0, 2, 1, 3)])
        self.assertEqual(len(faces(Plane(1, [(0, 0), (0, 0)], [(0, 2, 3, 1)]))), 3)
        # Three edges that leave both vertices in the same order.
        self.refused(2, [(0, 1)] * 3, [(0, 2, 4), (1, 3, 5)])
        self.assertEqual(len(faces(Plane(2, [(0, 1)] * 3, [(0, 2, 4), (5, 3, 1)]))), 3)
        # Four vertices, each two of them with an edge, one of them turned.
        edges = [(0, 1), (0, 2), (0, 3), (1, 2), (1, 3), (2, 3)]
        self.assertEqual(len(faces(Plane(4, edges, [(0, 2, 4), (1, 8, 6), (3, 7, 10), (5, 11, 9)]))), 4)
        self.refused(4, edges, [(0, 4, 2), (1, 8, 6), (3, 7, 10), (5, 11, 9)])

    def test_five_vertices_with_all_edges_are_never_plane(self):
        edges = [(u, v) for v in range(5) for u in range(v)]
        leaving = [[] for _ in range(5)]
        for e, (u, v) in enumerate(edges):
            leaving[u].append(2 * e)
            leaving[v].append(2 * e + 1)
        for turned in range(16):
            turns = [tuple(darts[turned % 4:] + darts[:turned % 4]) for darts in leaving]
            turns[turned // 4] = turns[turned // 4][::-1]
            self.refused(5, edges, turns)


class Faces(unittest.TestCase):
    def test_examples(self):
        examples = [
            (TRIANGLE, [(0, 2, 4), (1, 5, 3)]),
            ((1, [], [()]), [()]),
            ((1, [(0, 0)], [(0, 1)]), [(0,), (1,)]),
            ((1, [(0, 0)], [(1, 0)]), [(0,), (1,)]),
            ((2, [(0, 1)], [(0,), (1,)]), [(0, 1)]),
            ((3, [(0, 1), (1, 2)], [(0,), (1, 2), (3,)]), [(0, 2, 3, 1)]),
            ((4, [(0, 1), (0, 2), (0, 3)], [(0, 2, 4), (1,), (3,), (5,)]), [(0, 1, 2, 3, 4, 5)]),
            ((4, [(0, 1), (0, 2), (0, 3)], [(4, 2, 0), (1,), (3,), (5,)]), [(0, 1, 4, 5, 2, 3)]),
            ((2, [(0, 1), (0, 1)], [(0, 2), (3, 1)]), [(0, 3), (1, 2)]),
            ((2, [(0, 1), (1, 0)], [(0, 3), (2, 1)]), [(0, 2), (1, 3)]),
            ((1, [(0, 0), (0, 0)], [(0, 1, 2, 3)]), [(0, 2), (1,), (3,)]),
            ((1, [(0, 0), (0, 0)], [(0, 2, 3, 1)]), [(0,), (1, 2), (3,)]),
            ((2, [(0, 1), (0, 0)], [(0, 2, 3), (1,)]), [(0, 1, 2), (3,)]),
        ]
        for handed, expected in examples:
            with self.subTest(handed=handed):
                self.assertEqual(faces(Plane(*handed)), expected)

    def test_of_plane_graphs_of_many_kinds(self):
        for plane in planes():
            found = faces(plane)
            self.assertIs(type(found), list)
            self.assertTrue(all(type(face) is tuple and all(is_integer(dart) for dart in face) for face in found))
            self.assertEqual(found, plain_faces(plane.edges, plane.turns))

    def test_they_ascend_begin_with_their_least_dart_and_share_none(self):
        for plane in planes():
            found = faces(plane)
            self.assertEqual(len(found), 2 - plane.count + len(plane.edges))
            self.assertEqual(found, sorted(found))
            self.assertTrue(all(face[0] == min(face) for face in found if face))
            self.assertEqual(sorted(dart for face in found for dart in face), list(range(2 * len(plane.edges))))

    def test_where_a_turning_order_begins_does_not_matter(self):
        for count, edges, turns in PLANES:
            expected = faces(Plane(count, edges, turns))
            for v, turn in enumerate(turns):
                for k in range(len(turn)):
                    turned = turns[:v] + [turn[k:] + turn[:k]] + turns[v + 1:]
                    self.assertEqual(faces(Plane(count, edges, turned)), expected)

    def test_the_list_is_a_new_one_each_time(self):
        for handed in (TRIANGLE, (1, [], [()])):
            plane = Plane(*handed)
            expected = list(faces(plane))
            faces(plane).clear()
            self.assertEqual(faces(plane), expected)


class Duals(unittest.TestCase):
    def test_examples(self):
        examples = [
            (TRIANGLE, (2, ((0, 1), (0, 1), (0, 1)), ((0, 2, 4), (1, 5, 3)))),
            ((1, [], [()]), (1, (), ((),))),
            ((1, [(0, 0)], [(0, 1)]), (2, ((0, 1),), ((0,), (1,)))),
            ((2, [(0, 1)], [(0,), (1,)]), (1, ((0, 0),), ((0, 1),))),
            ((2, [(0, 1), (0, 1)], [(0, 2), (3, 1)]), (2, ((0, 1), (1, 0)), ((0, 3), (1, 2)))),
            ((1, [(0, 0), (0, 0)], [(0, 2, 3, 1)]), (3, ((0, 1), (1, 2)), ((0,), (1, 2), (3,)))),
        ]
        for handed, expected in examples:
            with self.subTest(handed=handed):
                self.assertEqual(parts(dual(Plane(*handed))), expected)

    def test_darts_of_the_dual_leave_the_faces_that_have_them(self):
        for plane in planes():
            before = parts(plane)
            other = dual(plane)
            self.assertIs(type(other), Plane)
            found = faces(plane)
            self.assertEqual((other.count, other.turns), (len(found), tuple(found)))
            for e, (u, v) in enumerate(other.edges):
                self.assertIn(2 * e, found[u])
                self.assertIn(2 * e + 1, found[v])
            self.assertEqual(parts(plane), before)

    def test_faces_of_the_dual_are_the_turning_orders(self):
        for plane in planes():
            turned = []
            for turn in plane.turns:
                first = turn.index(min(turn)) if turn else 0
                turned.append(turn[first:] + turn[:first])
            self.assertEqual(faces(dual(plane)), sorted(turned))

    def test_the_number_of_faces(self):
        for many in (98, 99):
            self.assertEqual(dual(Plane(*nested_loops(many))).count, many + 1)
        self.assertEqual(dual(Plane(*side_by_side(100))).count, 100)
        for handed in (nested_loops(100), loops_in_a_row(100), side_by_side(101), nested_loops(160)):
            plane = Plane(*handed)
            with self.assertRaises(InvalidPlane):
                dual(plane)


class Growing(unittest.TestCase):
    def test_a_leaf_at_each_place(self):
        for plane in planes():
            before = parts(plane)
            dart = 2 * len(plane.edges)
            for vertex in range(plane.count):
                turn = plane.turns[vertex]
                for place in range(len(turn) + 1):
                    result = with_leaf(plane, vertex, place)
                    self.assertIs(type(result), Plane)
                    turns = list(plane.turns) + [(dart + 1,)]
                    turns[vertex] = turn[:place] + (dart,) + turn[place:]
                    self.assertEqual(
                        parts(result), (plane.count + 1, plane.edges + ((vertex, plane.count),), tuple(turns)))
            self.assertEqual(parts(plane), before)

    def test_a_leaf_at_a_vertex_or_a_place_that_is_not_there(self):
        for plane in planes():
            for vertex in (-plane.count, -1, plane.count, plane.count + 1):
                with self.assertRaises(InvalidPlane):
                    with_leaf(plane, vertex, 0)
            for vertex in range(plane.count):
                many = len(plane.turns[vertex])
                for place in (-many - 1, -1, many + 1, many + 2):
                    with self.assertRaises(InvalidPlane):
                        with_leaf(plane, vertex, place)

    def test_an_edge_at_each_pair_of_places(self):
        refused = 0
        for plane in planes()[:24]:
            before = parts(plane)
            for first in range(plane.count):
                for place in range(len(plane.turns[first]) + 1):
                    for second in range(plane.count):
                        for other in range(len(plane.turns[second]) + 1 + (first == second)):
                            refused += self.check_edge(plane, first, place, second, other)
            self.assertEqual(parts(plane), before)
        self.assertGreater(refused, 0)

    def check_edge(self, plane, first, place, second, other):
        """Holds a further edge against what is told of it; returns whether it is refused."""
        dart = 2 * len(plane.edges)
        turns = [list(turn) for turn in plane.turns]
        turns[first].insert(place, dart)
        turns[second].insert(other, dart + 1)
        edges = plane.edges + ((first, second),)
        if len(plain_faces(edges, turns)) != 2 - plane.count + len(edges):
            with self.assertRaises(InvalidPlane):
                with_edge(plane, first, place, second, other)
            return True
        result = with_edge(plane, first, place, second, other)
        self.assertIs(type(result), Plane)
        self.assertEqual(parts(result), (plane.count, edges, tuple(tuple(turn) for turn in turns)))
        return False

    def test_an_edge_at_one_vertex(self):
        single = Plane(1, [], [()])
        self.assertEqual(parts(with_edge(single, 0, 0, 0, 0)), (1, ((0, 0),), ((1, 0),)))
        self.assertEqual(parts(with_edge(single, 0, 0, 0, 1)), (1, ((0, 0),), ((0, 1),)))
        loop = Plane(1, [(0, 0)], [(0, 1)])
        self.assertEqual(with_edge(loop, 0, 1, 0, 1).turns, ((0, 3, 2, 1),))
        self.assertEqual(with_edge(loop, 0, 2, 0, 3).turns, ((0, 1, 2, 3),))
        self.assertEqual(with_edge(loop, 0, 0, 0, 3).turns, ((2, 0, 1, 3),))
        for place, other in ((0, 2), (1, 0), (1, 3), (2, 1)):
            with self.assertRaises(InvalidPlane):
                with_edge(loop, 0, place, 0, other)

    def test_an_edge_between_two_faces_is_refused(self):
        grid = Plane(*drawn_grid(2, 3))
        # The corners 0 and 5 have the outer face alone in common.
        allowed = []
        for place in range(3):
            for other in range(3):
                try:
                    self.assertEqual(len(faces(with_edge(grid, 0, place, 5, other))), 4)
                    allowed.append((place, other))
                except InvalidPlane:
                    pass
        self.assertEqual((grid.turns[0], grid.turns[5]), ((0, 8), (13, 7)))
        self.assertEqual(allowed, [(0, 1), (2, 1)])

    def test_an_edge_at_a_vertex_or_a_place_that_is_not_there(self):
        triangle = Plane(*TRIANGLE)
        for first, place, second, other in (
            (-1, 0, 0, 0), (3, 0, 0, 0), (0, 0, -1, 0), (0, 0, 3, 0), (-3, 0, 0, 0), (0, 0, -3, 0),
            (0, -1, 1, 0), (0, 3, 1, 0), (0, 0, 1, -1), (0, 0, 1, 3), (0, -2, 1, 0), (0, 0, 1, -2),
            (0, 0, 0, 4), (0, 0, 0, -1), (0, 3, 0, 0), (0, -1, 0, 0),
        ):
            with self.subTest(at=(first, place, second, other)), self.assertRaises(InvalidPlane):
                with_edge(triangle, first, place, second, other)

    def test_at_the_limits(self):
        self.assertEqual(with_leaf(Plane(*row_of_vertices(99)), 98, 1).count, 100)
        with self.assertRaises(InvalidPlane):
            with_leaf(Plane(*row_of_vertices(100)), 99, 1)
        full = Plane(*row_of_vertices(100))
        self.assertEqual(len(with_edge(full, 0, 0, 99, 0).edges), 100)
        self.assertEqual(len(with_edge(Plane(*nested_loops(159)), 0, 0, 0, 0).edges), 160)
        self.assertEqual(len(with_leaf(Plane(*nested_loops(159)), 0, 7).edges), 160)
        crowded = Plane(*nested_loops(160))
        with self.assertRaises(InvalidPlane):
            with_edge(crowded, 0, 0, 0, 0)
        with self.assertRaises(InvalidPlane):
            with_leaf(crowded, 0, 0)

    def test_results_come_again(self):
        ring = Plane(*drawn_ring(4))
        for _ in range(2):
            self.assertEqual(parts(with_leaf(ring, 1, 1)), parts(with_leaf(ring, 1, 1)))
            self.assertEqual(parts(with_edge(ring, 1, 1, 1, 2)), parts(with_edge(ring, 1, 1, 1, 2)))
        self.assertEqual(parts(ring), as_tuples(*drawn_ring(4)))


class Largest(unittest.TestCase):
    def test_the_time_that_they_need(self):
        for handed in (
            drawn_grid(8, 10), double_row(100, 160), nested_loops(160), side_by_side(160), star_of_vertices(100),
        ):
            plane, needed = timed(Plane, *handed)
            found, more = timed(faces, plane)
            self.assertEqual(found, plain_faces(plane.edges, plane.turns))
            self.assertLess(needed + more, 5)
            if len(found) <= 100:
                other, needed = timed(dual, plane)
                self.assertEqual(other.turns, tuple(found))
                self.assertLess(needed, 5)


if __name__ == "__main__":
    unittest.main()
