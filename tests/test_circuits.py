"""Point 27, and spinfield/circuits.py."""

import random
import unittest
from fractions import Fraction
from itertools import combinations

from helper import (
    crowd, drawn, drawn_grid, drawn_wheel, exact, grown, is_fraction, is_integer, loops_in_a_row, nested_loops,
    plain_faces, plain_state_costs, planes, row_of_vertices, side_by_side, some_couplings, timed, wrong_couplings,
)
from spinfield.circuits import least_by_circuits, packing_bound
from spinfield.duals import plane_sum
from spinfield.errors import InvalidWeight, TooLarge
from spinfield.planes import Plane

TRIANGLE = Plane(3, [(0, 1), (1, 2), (2, 0)], [(0, 5), (2, 1), (4, 3)])
SINGLE = Plane(1, [], [()])
# Each two of four vertices with an edge: (0, 1), (0, 2), (0, 3), (1, 2), (1, 3), (2, 3).
FOUR = Plane(*drawn([(0, 0), (4, 0), (0, 4), (1, 1)], list(combinations(range(4), 2))))
# Two triangles that have the vertex 0 in common: (0, 1), (1, 2), (2, 0), (0, 3), (3, 4), (4, 0).
BOW = Plane(*drawn(
    [(0, 0), (2, 1), (2, -1), (-2, 1), (-2, -1)], [(0, 1), (1, 2), (2, 0), (0, 3), (3, 4), (4, 0)]))
HALF = (1, 2)
ONE = (1, 1)


def plain_circuits(edges):
    """All circuits, as told in point 27: by the closed ways that pass each vertex once."""
    found = set()

    def walk(start, vertex, passed, taken):
        for e, (u, v) in enumerate(edges):
            if e not in taken and vertex in (u, v):
                other = u if v == vertex else v
                if other == start:
                    found.add(tuple(sorted(taken + [e])))
                elif other not in passed:
                    walk(start, other, passed + [other], taken + [e])

    for vertex in {end for edge in edges for end in edge}:
        walk(vertex, vertex, [vertex], [])
    return found


def plain_bound(plane, couplings, packing):
    """The bound of a packing, straight from point 27, as one of Python's own fractions, or None."""
    circuits = plain_circuits(plane.edges)
    loads = [Fraction(0)] * len(couplings)
    bound = Fraction(sum(j for j in couplings if j < 0))
    for circuit, amount in packing:
        if circuit not in circuits or sum(couplings[e] < 0 for e in circuit) % 2 == 0 or Fraction(*amount) <= 0:
            return None
        bound += Fraction(*amount)
        for e in circuit:
            loads[e] += Fraction(*amount)
    return None if any(load > abs(j) for load, j in zip(loads, couplings)) else bound


def few_faces():
    """The plane graphs with at most 8 faces, more of them than elsewhere."""
    more = [Plane(*grown(seed, seed % 7, seed % 8)) for seed in range(400, 440)]
    return [plane for plane in planes() + more if len(plain_faces(plane.edges, plane.turns)) <= 8]


class Bounds(unittest.TestCase):
    def test_examples(self):
        self.assertEqual(packing_bound(SINGLE, [], ()), (0, 1))
        self.assertEqual(packing_bound(TRIANGLE, [-2, 3, -4], ()), (-6, 1))
        self.assertEqual(packing_bound(TRIANGLE, [-2, 3, 4], (((0, 1, 2), ONE),)), (-1, 1))
        self.assertEqual(packing_bound(TRIANGLE, [-2, 3, 4], (((0, 1, 2), (2, 1)),)), (0, 1))
        self.assertEqual(packing_bound(TRIANGLE, [-1, -1, -1], (((0, 1, 2), (2, 3)),)), (-7, 3))
        self.assertEqual(packing_bound(Plane(1, [(0, 0)], [(0, 1)]), [-4], (((0,), (5, 2)),)), (-3, 2))
        self.assertEqual(packing_bound(Plane(*side_by_side(2)), [-4, 9], (((0, 1), (4, 1)),)), (0, 1))

    def test_halves_on_four_triangles(self):
        triangles = [(0, 1, 3), (0, 2, 4), (1, 2, 5), (3, 4, 5)]
        packing = tuple((triangle, HALF) for triangle in triangles)
        self.assertEqual(packing_bound(FOUR, [-1] * 6, packing), (-4, 1))
        self.assertEqual(packing_bound(FOUR, [-1] * 6, packing[1:]), (-9, 2))
        self.assertEqual(packing_bound(FOUR, [-1] * 6, packing[::-1]), (-4, 1))

    def check_none(self, plane, couplings, packing):
        with self.subTest(edges=plane.edges, couplings=couplings, packing=packing):
            self.assertIsNone(packing_bound(plane, couplings, packing))

    def test_tuples_that_are_no_circuits(self):
        for circuit in (
            (), (0,), (1,), (0, 1), (0, 2), (1, 2), (0, 2, 1), (2, 1, 0), (0, 0, 1, 2), (0, 1, 1, 2), (0, 1, 2, 2),
            (0, 1, 2, 3), (-1, 0, 1), (-3, -2, -1), (-1, 0, 1, 2), (0, 1, 3), (0, 1, 100), (3,), (-1,),
        ):
            for couplings in ([-2, 3, 4], [-1, -1, -1], [2, -1, 1], [1, 1, -5]):
                self.check_none(TRIANGLE, couplings, ((circuit, HALF),))
        for circuit in ((), (0,), (-1,)):
            self.check_none(SINGLE, [], ((circuit, HALF),))
        self.check_none(Plane(*row_of_vertices(2)), [-1], (((0,), HALF),))
        self.check_none(Plane(*row_of_vertices(4)), [-1, 1, 1], (((0, 1, 2), HALF),))

    def test_a_way_that_passes_a_vertex_twice(self):
        couplings = [-1, 1, 1, 1, 1, 1]
        self.assertEqual(packing_bound(BOW, couplings, (((0, 1, 2), ONE),)), (0, 1))
        self.check_none(BOW, couplings, (((0, 1, 2, 3, 4, 5), ONE),))
        loops = Plane(*loops_in_a_row(2))
        self.assertEqual(packing_bound(loops, [-1, 1], (((0,), ONE),)), (0, 1))
        self.check_none(loops, [-1, 1], (((0, 1), ONE),))
        # All edges of FOUR but one, and a square with a diagonal.
        self.check_none(FOUR, [-1] * 6, (((0, 1, 2, 3, 4), HALF),))
        self.assertEqual(packing_bound(FOUR, [-1, 1, 1, 1, 1, 1], (((0, 1, 4, 5), HALF),)), (-1, 2))
        # Three edges with the same ends.
        self.check_none(Plane(*side_by_side(3)), [-1, -1, -1], (((0, 1, 2), HALF),))
        # A triangle with a loop, with a tail, and with one of its edges twice.
        loop = Plane(3, [(0, 1), (1, 2), (2, 0), (0, 0)], [(0, 5, 6, 7), (2, 1), (4, 3)])
        tail = Plane(4, [(0, 1), (1, 2), (2, 0), (0, 3)], [(0, 5, 6), (2, 1), (4, 3), (7,)])
        double = Plane(3, [(0, 1), (1, 2), (2, 0), (0, 1)], [(0, 5, 6), (2, 1, 7), (4, 3)])
        for plane in (loop, tail, double):
            self.assertEqual(packing_bound(plane, [-1, 1, 1, 1], (((0, 1, 2), ONE),)), (0, 1))
            self.check_none(plane, [-1, 1, 1, 1], (((0, 1, 2, 3), ONE),))

    def test_two_circuits_at_once(self):
        apart = Plane(
            6, [(0, 1), (1, 2), (2, 0), (3, 4), (4, 5), (5, 3), (0, 3)],
            [(0, 5, 12), (2, 1), (4, 3), (6, 11, 13), (8, 7), (10, 9)])
        couplings = [-1, 1, 1, 1, 1, 1, 1]
        self.assertEqual(packing_bound(apart, couplings, (((0, 1, 2), ONE),)), (0, 1))
        self.check_none(apart, couplings, (((0, 1, 2, 3, 4, 5), ONE),))
        self.check_none(apart, couplings, (((0, 1, 2, 3, 4, 5, 6), ONE),))
        # Two loops at both ends of an edge.
        ends = Plane(2, [(0, 0), (0, 1), (1, 1)], [(0, 1, 2), (3, 4, 5)])
        self.check_none(ends, [-1, 1, 1], (((0, 2), ONE),))
        self.check_none(ends, [-1, 1, 1], (((0, 1, 2), ONE),))
        self.assertEqual(packing_bound(ends, [-1, 1, 1], (((0,), ONE),)), (0, 1))

    def test_circuits_that_are_not_frustrated(self):
        for couplings, frustrated in (
            ([1, 1, 1], False), ([-1, 1, 1], True), ([1, -1, -1], False), ([-1, -1, -1], True), ([1, 1, -1], True),
        ):
            packing = (((0, 1, 2), ONE),)
            expected = (sum(j for j in couplings if j < 0) + 1, 1) if frustrated else None
            self.assertEqual(packing_bound(TRIANGLE, couplings, packing), expected)
        loop = Plane(1, [(0, 0)], [(0, 1)])
        self.check_none(loop, [4], (((0,), ONE),))
        # A coupling 0 is not negative, and nothing can be packed on it.
        self.check_none(TRIANGLE, [0, 1, 1], (((0, 1, 2), HALF),))
        self.check_none(TRIANGLE, [0, -1, 1], (((0, 1, 2), (1, 100)),))
        self.check_none(loop, [0], (((0,), HALF),))

    def test_amounts_that_are_not_above_0(self):
        for amount in ((0, 1), (-1, 1), (-1, 2), (-7, 3)):
            self.check_none(TRIANGLE, [-2, 3, 4], (((0, 1, 2), amount),))
            self.check_none(TRIANGLE, [-2, 3, 4], (((0, 1, 2), ONE), ((0, 1, 2), amount)))
            self.check_none(TRIANGLE, [-2, 3, 4], (((0, 1, 2), amount), ((0, 1, 2), ONE)))

    def test_loads_above_the_size_of_a_coupling(self):
        for couplings in ([-2, 3, 4], [3, -2, 4], [5, 3, -2], [2, 9, -9], [-9, 2, 9]):
            negative = sum(j for j in couplings if j < 0)
            self.assertEqual(packing_bound(TRIANGLE, couplings, (((0, 1, 2), (2, 1)),)), (negative + 2, 1))
            self.check_none(TRIANGLE, couplings, (((0, 1, 2), (3, 1)),))
            self.check_none(TRIANGLE, couplings, (((0, 1, 2), (21, 10)),))
            # The same circuit told twice, and several times.
            self.assertEqual(packing_bound(TRIANGLE, couplings, (((0, 1, 2), ONE),) * 2), (negative + 2, 1))
            self.check_none(TRIANGLE, couplings, (((0, 1, 2), ONE), ((0, 1, 2), (11, 10))))
            self.assertEqual(packing_bound(TRIANGLE, couplings, (((0, 1, 2), (1, 3)),) * 6), (negative + 2, 1))
            self.check_none(TRIANGLE, couplings, (((0, 1, 2), (1, 3)),) * 7)
        # Two circuits with an edge in common.
        both = (((0, 1, 3), ONE), ((0, 2, 4), ONE))
        self.assertEqual(packing_bound(FOUR, [-2, 1, 1, 1, 1, 1], both), (0, 1))
        self.check_none(FOUR, [-1, 1, 1, 1, 1, 1], both)

    def test_straight_from_the_document(self):
        told = missing = 0
        for seed, plane in enumerate(few_faces()):
            choose = random.Random(seed).randrange
            many = len(plane.edges)
            couplings = some_couplings(many, seed)
            circuits = sorted(plain_circuits(plane.edges))
            tried = [()]
            for _ in range(30):
                amounts = [exact(Fraction(1 + choose(5), 2)) for _ in range(3)]
                if circuits:
                    tried.append(tuple((circuits[choose(len(circuits))], amount) for amount in amounts[:1 + choose(3)]))
                tried.append(((tuple(e for e in range(many) if choose(2)), amounts[0]),))
            for packing in tried:
                found, expected = packing_bound(plane, couplings, packing), plain_bound(plane, couplings, packing)
                self.assertEqual(found, expected if expected is None else exact(expected))
                told, missing = told + (found is not None), missing + (found is None)
                if found is not None:
                    self.assertTrue(is_fraction(found))
                    least = min(plain_state_costs(plane.count, plane.edges, couplings).values())
                    self.assertLessEqual(Fraction(*found), least)
        self.assertGreater(told, 150)
        self.assertGreater(missing, 150)


class Least(unittest.TestCase):
    def check(self, plane, couplings):
        result = least_by_circuits(plane, couplings)
        self.assertIs(type(result), tuple)
        least, state, packing = result
        self.assertTrue(is_integer(least))
        self.assertTrue(type(state) is tuple and all(is_integer(spin) and spin in (0, 1) for spin in state))
        self.assertEqual(len(state), plane.count)
        self.assertEqual(sum(j for (u, v), j in zip(plane.edges, couplings) if state[u] != state[v]), least)
        self.assertIs(type(packing), tuple)
        for pair in packing:
            self.assertTrue(type(pair) is tuple and type(pair[0]) is tuple and is_fraction(pair[1]))
            self.assertTrue(all(is_integer(e) for e in pair[0]))
        self.assertEqual(packing_bound(plane, couplings, packing), (least, 1))
        return least, packing

    def test_examples(self):
        examples = [
            (SINGLE, [], 0), (TRIANGLE, [1, 1, 1], 0), (TRIANGLE, [-1, -1, -1], -2), (TRIANGLE, [-2, 3, 4], 0),
            (TRIANGLE, [-5, 3, 4], -2), (TRIANGLE, [0, 0, 0], 0), (TRIANGLE, [0, -1, -9], -10),
            (Plane(1, [(0, 0)], [(0, 1)]), [-9], 0), (Plane(*nested_loops(3)), [-9, 4, -3], 0),
            (Plane(*side_by_side(2)), [-4, 9], 0), (Plane(*side_by_side(2)), [-9, 4], -5),
            (Plane(*side_by_side(3)), [-1, -2, 4], 0), (Plane(*row_of_vertices(3)), [-4, -7], -11),
            (FOUR, [-1] * 6, -4), (FOUR, [-1, 1, 1, 1, 1, 1], 0), (BOW, [-1, 2, 2, -3, -3, -3], -6),
        ]
        for plane, couplings, least in examples:
            with self.subTest(edges=plane.edges, couplings=couplings):
                self.assertEqual(self.check(plane, couplings)[0], least)

    def test_where_only_halves_will_do(self):
        _, packing = self.check(FOUR, [-1] * 6)
        self.assertTrue(any(amount[1] > 1 for _, amount in packing))

    def test_amounts_that_are_taken_back(self):
        # Here the simplex method puts more on some edge at first than at the end.
        edges = [
            (0, 1), (1, 0), (0, 1), (1, 2), (1, 2), (2, 3), (0, 3), (1, 0), (1, 4), (4, 5), (4, 5), (3, 2)]
        turns = [
            (3, 12, 15, 4, 0), (2, 1, 16, 5, 14, 6, 8), (7, 23, 10, 9), (11, 22, 13), (20, 17, 18), (21, 19)]
        self.check(Plane(6, edges, turns), [1, 1, -1, -1, 1, -1, 1, -1, -1, -1, 1, 1])
        edges = [
            (0, 1), (0, 1), (0, 2), (2, 3), (2, 3), (2, 4), (1, 1), (3, 1), (4, 5), (4, 6), (1, 7), (1, 7), (5, 6),
            (1, 8), (3, 1)]
        turns = [
            (0, 4, 2), (12, 20, 22, 3, 15, 29, 1, 13, 26), (8, 10, 6, 5), (14, 7, 9, 28), (18, 11, 16), (24, 17),
            (19, 25), (21, 23), (27,)]
        self.check(Plane(9, edges, turns), [1, -1, -1, -1, 1, 1, 1, -1, 1, -1, -1, -1, 1, 1, 1])

    def test_against_all_states_of_small_graphs(self):
        for seed, plane in enumerate(few_faces()):
            for k in range(4):
                couplings = some_couplings(len(plane.edges), 10 * seed + k)
                expected = min(plain_state_costs(plane.count, plane.edges, couplings).values())
                self.assertEqual(self.check(plane, couplings)[0], expected)
            couplings = [-1] * len(plane.edges)
            expected = min(plain_state_costs(plane.count, plane.edges, couplings).values())
            self.assertEqual(self.check(plane, couplings)[0], expected)

    def test_the_largest_graphs_and_the_time_that_they_need(self):
        made = [drawn_wheel(7), drawn_grid(2, 6), drawn_grid(3, 4), nested_loops(7), side_by_side(8)]
        made += [grown(seed, 11, 7) for seed in range(500, 512)] + [grown(seed, 5, 7) for seed in range(512, 524)]
        for seed, handed in enumerate(made):
            plane = Plane(*handed)
            for couplings in (some_couplings(len(plane.edges), seed), [-1] * len(plane.edges)):
                (_, _, _), needed = timed(least_by_circuits, plane, couplings)
                least, _ = self.check(plane, couplings)
                self.assertEqual(least, plane_sum(plane, couplings)[0][0][0])
                self.assertLess(needed, 10)
        self.assertEqual(max(len(plain_faces(edges, turns)) for _, edges, turns in made), 8)

    def test_results_come_again_and_nothing_is_changed(self):
        for seed, plane in enumerate(few_faces()[:30]):
            couplings = some_couplings(len(plane.edges), seed)
            before = (plane.count, plane.edges, plane.turns, list(couplings))
            again = Plane(plane.count, list(plane.edges), list(plane.turns))
            result = least_by_circuits(plane, couplings)
            self.assertEqual(least_by_circuits(again, list(couplings)), result)
            self.assertEqual(packing_bound(plane, couplings, result[2]), packing_bound(plane, couplings, result[2]))
            self.assertEqual((plane.count, plane.edges, plane.turns, couplings), before)


class Refused(unittest.TestCase):
    def functions(self):
        return [least_by_circuits, lambda plane, couplings: packing_bound(plane, couplings, ())]

    def test_too_few_too_many_or_too_large_couplings(self):
        for plane in few_faces():
            for function in self.functions():
                for couplings in wrong_couplings(len(plane.edges)):
                    with self.assertRaises(InvalidWeight):
                        function(plane, couplings)
                for j in (-9, 9):
                    self.assertIsNotNone(function(plane, [j] * len(plane.edges)))

    def test_too_many_vertices_edges_or_faces(self):
        for function in self.functions():
            # Vertices and edges; the faces are 2 minus those plus these.
            for count, many in ((12, 11), (12, 18), (1, 7), (2, 8), (11, 17)):
                self.assertIsNotNone(function(Plane(*crowd(count, many)), [-1] * many))
            for count, many in ((13, 12), (13, 19), (12, 19), (12, 24), (12, 25), (1, 8), (1, 25), (2, 9), (100, 99)):
                plane = Plane(*crowd(count, many))
                with self.subTest(count=count, many=many):
                    with self.assertRaises(TooLarge):
                        function(plane, [-1] * many)
                    for couplings in ([0] * (many - 1), [0] * (many + 1), [0] * (many - 1) + [10], [-10] * many):
                        with self.assertRaises(InvalidWeight):
                            function(plane, couplings)

    def test_errors_come_before_what_is_wrong_in_a_packing(self):
        wrong = (((), (0, 1)),)
        self.assertIsNone(packing_bound(TRIANGLE, [-1, 1, 1], wrong))
        with self.assertRaises(InvalidWeight):
            packing_bound(TRIANGLE, [-1, 1], wrong)
        with self.assertRaises(TooLarge):
            packing_bound(Plane(*nested_loops(8)), [-1] * 8, wrong)


if __name__ == "__main__":
    unittest.main()
