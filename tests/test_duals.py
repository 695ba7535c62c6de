"""Points 19 and 20, and spinfield/duals.py."""

import unittest

from helper import (
    PLANES, crowd, gathered, grown, is_polynomial, loops_in_a_row, nested_loops, plain_cut_sum, plain_even_sum,
    plain_plane_sum, planes, product_of, row_of_vertices, side_by_side, some_couplings, star_of_vertices,
    three_squares, timed, wrong_couplings,
)
from spinfield.duals import cut_sum, even_sum, plane_sum, sum_by_dual
from spinfield.errors import InvalidWeight, TooLarge
from spinfield.loops import sum_by_loops
from spinfield.planes import Plane, dual, faces, with_leaf
from spinfield.spins import Spins

TRIANGLE = (3, [(0, 1), (1, 2), (2, 0)], [(0, 5), (2, 1), (4, 3)])


def row(*exponents):
    """The sum of x to the power of each exponent."""
    return gathered([((a, 0), 1) for a in exponents])


def twice(p):
    return gathered(p + p)


def with_couplings():
    """Plane graphs and couplings for them: of both signs and 0, all 0, all 1."""
    for seed, plane in enumerate(planes()):
        many = len(plane.edges)
        for couplings in ([0] * many, [1] * many, [-1] * many):
            yield plane, couplings
        for k in range(3):
            yield plane, some_couplings(many, 10 * seed + k)


class Examples(unittest.TestCase):
    def check(self, handed, couplings, cuts, evens):
        plane = Plane(*handed)
        with self.subTest(handed=handed, couplings=couplings):
            self.assertEqual(cut_sum(plane, couplings), cuts)
            self.assertEqual(even_sum(plane, couplings), evens)
            self.assertEqual(plane_sum(plane, couplings), twice(cuts))
            self.assertEqual(sum_by_dual(plane, couplings), twice(cuts))

    def test_one_vertex(self):
        self.check((1, [], [()]), [], row(0), row(0))
        for j in (-9, -1, 0, 2, 9):
            self.check((1, [(0, 0)], [(0, 1)]), [j], row(0), row(0, j))
        self.check(nested_loops(2), [3, -1], row(0), row(0, 3, -1, 2))
        self.check(loops_in_a_row(2), [0, 0], row(0), row(0, 0, 0, 0))

    def test_two_vertices(self):
        for j in (-9, -1, 0, 2, 9):
            self.check(row_of_vertices(2), [j], row(0, j), row(0))
        self.check(side_by_side(2), [2, 3], row(0, 5), row(0, 5))
        self.check(side_by_side(2), [2, -2], row(0, 0), row(0, 0))
        self.check(side_by_side(3), [1, 2, -4], row(0, -1), row(0, 3, -3, -2))
        self.check((2, [(0, 1), (0, 0)], [(0, 2, 3), (1,)]), [5, -3], row(0, 5), row(0, -3))

    def test_rings_and_trees(self):
        self.check(TRIANGLE, [1, 2, -4], row(0, -3, 3, -2), row(0, -1))
        self.check(TRIANGLE, [1, 1, 1], row(0, 2, 2, 2), row(0, 3))
        self.check(TRIANGLE, [0, 0, 0], row(0, 0, 0, 0), row(0, 0))
        self.check(row_of_vertices(3), [4, -7], row(0, 4, -7, -3), row(0))
        self.check(star_of_vertices(4), [1, 1, 1], row(0, 1, 1, 1, 2, 2, 2, 3), row(0))

    def test_two_triangles_with_an_edge_in_common(self):
        edges = [(0, 1), (1, 2), (2, 0), (1, 3), (3, 2)]
        turns = [(0, 5), (2, 1, 6), (4, 3, 9), (8, 7)]
        cuts = row(0, 1 - 2, 1 + 2 + 4, 2 - 2 + 3, 4 + 3, 1 - 2 + 4 + 3, 1 + 2 + 3, 2 - 2 + 4)
        self.check((4, edges, turns), [1, 2, -2, 4, 3], cuts, row(0, 1, 9, 6))


class Sums(unittest.TestCase):
    def test_straight_from_the_document(self):
        for plane, couplings in with_couplings():
            told = (plane.count, plane.edges, couplings)
            self.assertEqual(plane_sum(plane, couplings), plain_plane_sum(*told))
            self.assertEqual(cut_sum(plane, couplings), plain_cut_sum(*told))
            self.assertEqual(even_sum(plane, couplings), plain_even_sum(*told))

    def test_they_belong_together_as_told(self):
        for plane, couplings in with_couplings():
            other = dual(plane)
            cuts = cut_sum(plane, couplings)
            self.assertEqual(plane_sum(plane, couplings), twice(cuts))
            self.assertEqual(sum_by_dual(plane, couplings), twice(cuts))
            self.assertEqual(even_sum(other, couplings), cuts)
            self.assertEqual(cut_sum(other, couplings), even_sum(plane, couplings))
            self.assertEqual(sum_by_dual(other, couplings), plane_sum(other, couplings))

    def test_kinds_of_values(self):
        for plane, couplings in with_couplings():
            for function in (plane_sum, cut_sum, even_sum, sum_by_dual):
                found = function(plane, couplings)
                self.assertTrue(is_polynomial(found))
                self.assertTrue(all(b == 0 for (_, b), _ in found))

    def test_as_spins_have_it(self):
        for plane in planes():
            if len(set(plane.edges)) == len(plane.edges) and all(u < v for u, v in plane.edges):
                couplings = [(5 * e) % 9 - 4 or 9 for e in range(len(plane.edges))]
                edges = sorted((u, v, j) for (u, v), j in zip(plane.edges, couplings))
                self.assertEqual(plane_sum(plane, couplings), sum_by_loops(Spins([0] * plane.count, edges)))

    def test_nothing_that_was_passed_is_changed_and_results_come_again(self):
        for plane, couplings in with_couplings():
            before = (plane.count, plane.edges, plane.turns, list(couplings))
            for function in (plane_sum, cut_sum, even_sum, sum_by_dual):
                self.assertEqual(function(plane, couplings), function(plane, couplings))
            self.assertEqual((plane.count, plane.edges, plane.turns, couplings), before)


class Refused(unittest.TestCase):
    def test_too_few_too_many_or_too_large_couplings(self):
        for handed in PLANES:
            plane = Plane(*handed)
            for function in (plane_sum, cut_sum, even_sum, sum_by_dual):
                for couplings in wrong_couplings(len(plane.edges)):
                    with self.assertRaises(InvalidWeight):
                        function(plane, couplings)
                for j in (-9, 9):
                    self.assertTrue(function(plane, [j] * len(plane.edges)))

    def test_too_many_vertices_or_edges(self):
        for function in (plane_sum, cut_sum, even_sum):
            for count, many in ((12, 11), (12, 24), (1, 24), (11, 24), (2, 23)):
                self.assertTrue(function(Plane(*crowd(count, many)), [1] * many))
            for count, many in ((13, 12), (13, 24), (13, 25), (12, 25), (1, 25), (2, 26), (100, 99), (3, 160)):
                plane = Plane(*crowd(count, many))
                with self.subTest(function=function, count=count, many=many):
                    with self.assertRaises(TooLarge):
                        function(plane, [1] * many)
                    with self.assertRaises(InvalidWeight):
                        function(plane, [1] * (many - 1))
                    with self.assertRaises(InvalidWeight):
                        function(plane, [1] * (many + 1))
                    with self.assertRaises(InvalidWeight):
                        function(plane, [1] * (many - 1) + [-10])

    def test_too_many_faces_or_edges_for_the_dual(self):
        for count, loops in ((1, 11), (5, 11), (13, 11), (14, 11), (13, 5), (14, 10), (25, 0)):
            many = count - 1 + loops
            plane = Plane(*crowd(count, many))
            self.assertEqual(len(faces(plane)), loops + 1)
            expected = product_of([row(0, 1)] * (count - 1) + [row(0, 0)])
            self.assertEqual(sum_by_dual(plane, [1] * many), expected)
        for count, loops in ((1, 12), (2, 12), (12, 12), (13, 12), (14, 12), (25, 1), (26, 0), (1, 160), (100, 0)):
            many = count - 1 + loops
            plane = Plane(*crowd(count, many))
            with self.subTest(count=count, loops=loops):
                with self.assertRaises(TooLarge):
                    sum_by_dual(plane, [1] * many)
                with self.assertRaises(InvalidWeight):
                    sum_by_dual(plane, [1] * (many + 1))
                with self.assertRaises(InvalidWeight):
                    sum_by_dual(plane, [1] * (many - 1) + [10])


class Largest(unittest.TestCase):
    def test_the_time_that_they_need(self):
        squares = Plane(*three_squares())
        self.assertEqual((squares.count, len(squares.edges), len(faces(squares))), (12, 24, 14))
        for seed, plane in enumerate([squares, Plane(*grown(77, 11, 13)), Plane(*crowd(12, 24)), Plane(*crowd(1, 24))]):
            self.assertEqual(len(plane.edges), 24)
            couplings = some_couplings(24, seed)
            cuts, first = timed(cut_sum, plane, couplings)
            evens, second = timed(even_sum, plane, couplings)
            states, third = timed(plane_sum, plane, couplings)
            self.assertEqual(states, twice(cuts))
            self.assertEqual(sum(c for _, c in evens), 2 ** (24 - plane.count + 1))
            self.assertLess(max(first, second, third), 10)

    def test_the_largest_duals(self):
        for seed, handed in enumerate((three_squares(), grown(78, 11, 13), grown(79, 11, 13))):
            plane = Plane(*handed)
            other = dual(plane)
            self.assertEqual((len(faces(other)), other.count, len(other.edges)), (12, 14, 24))
            couplings = some_couplings(24, seed)
            found, needed = timed(sum_by_dual, other, couplings)
            self.assertEqual(found, twice(even_sum(plane, couplings)))
            self.assertLess(needed, 10)
        # With a leaf more at the end of a tree there would be 25 edges.
        longest = Plane(*crowd(25, 24))
        self.assertEqual(sum_by_dual(longest, [1] * 24), product_of([row(0, 1)] * 24 + [row(0, 0)]))
        with self.assertRaises(TooLarge):
            sum_by_dual(with_leaf(longest, 0, 0), [1] * 25)


if __name__ == "__main__":
    unittest.main()
