"""Points 24 and 25, and spinfield/decorations.py."""

import random
import unittest
from fractions import Fraction

from helper import (
    crowd, drawn_wheel, exact, grown, is_fraction, is_polynomial, loops_in_a_row, nested_loops, plain_even_value,
    plain_plane_sum, plain_value, planes, row_of_vertices, side_by_side, some_couplings, star_of_vertices,
    three_squares, timed, wrong_couplings,
)
from spinfield.decorations import even_value, plane_value, sum_by_dimers
from spinfield.duals import plane_sum
from spinfield.errors import InvalidWeight, TooLarge
from spinfield.planes import Plane

TRIANGLE = Plane(3, [(0, 1), (1, 2), (2, 0)], [(0, 5), (2, 1), (4, 3)])
SINGLE = Plane(1, [], [()])
NUMBERS = ((1, 1), (2, 1), (1, 2), (-1, 1), (-3, 2), (5, 7), (-1, 10))


def some_pairs(many, seed):
    """So many pairs of fractions of both signs and 0, the same ones for the same seed."""
    choose = random.Random(seed).randrange
    return [tuple(exact(Fraction(choose(9) - 3, 1 + choose(3))) for _ in range(2)) for _ in range(many)]


def small_couplings(many, seed, most):
    """So many couplings of both signs and 0, whose sizes are at most a number together."""
    couplings = []
    for j in some_couplings(many, seed):
        couplings.append(j if sum(map(abs, couplings)) + abs(j) <= most else 0)
    return couplings


def wheels_and_many_darts():
    """Vertices with 4 to 14 darts, with rings around them, and with loops among them."""
    made = [drawn_wheel(spokes) for spokes in range(3, 7)] + [star_of_vertices(12), side_by_side(7)]
    made += [nested_loops(6), loops_in_a_row(7), crowd(3, 9), crowd(6, 11)]
    made += [grown(seed, seed % 3, 10) for seed in range(300, 330)]
    return [Plane(*handed) for handed in made]


class EvenValues(unittest.TestCase):
    def check(self, plane, pairs):
        found = even_value(plane, pairs)
        self.assertTrue(is_fraction(found))
        self.assertEqual(found, exact(plain_even_value(plane.count, plane.edges, pairs)))

    def test_examples(self):
        self.assertEqual(even_value(SINGLE, []), (1, 1))
        self.assertEqual(even_value(Plane(*row_of_vertices(2)), [((5, 1), (2, 3))]), (2, 3))
        for turn in ((0, 1), (1, 0)):
            self.assertEqual(even_value(Plane(1, [(0, 0)], [turn]), [((5, 1), (2, 3))]), (17, 3))
        pairs = [((2, 1), (3, 1)), ((5, 1), (7, 1)), ((11, 1), (13, 1))]
        self.assertEqual(even_value(TRIANGLE, pairs), (2 * 5 * 11 + 3 * 7 * 13, 1))
        self.assertEqual(even_value(Plane(*side_by_side(2)), pairs[:2]), (2 * 5 + 3 * 7, 1))
        self.assertEqual(
            even_value(Plane(*side_by_side(3)), pairs),
            (3 * 7 * 13 + 2 * 5 * 13 + 2 * 7 * 11 + 3 * 5 * 11, 1))
        for maker in (nested_loops, loops_in_a_row):
            self.assertEqual(even_value(Plane(*maker(3)), pairs), (5 * 12 * 24, 1))

    def test_straight_from_the_document(self):
        for seed, plane in enumerate(planes()):
            for k in range(4):
                self.check(plane, some_pairs(len(plane.edges), 10 * seed + k))

    def test_vertices_with_many_darts(self):
        self.assertGreaterEqual(max(len(turn) for plane in wheels_and_many_darts() for turn in plane.turns), 14)
        for seed, plane in enumerate(wheels_and_many_darts()):
            self.check(plane, some_pairs(len(plane.edges), 500 + seed))
            self.check(plane, [((1, 1), (1, 1))] * len(plane.edges))

    def test_where_a_turning_order_begins_does_not_matter(self):
        plane = Plane(*drawn_wheel(5))
        pairs = some_pairs(10, 7)
        expected = even_value(plane, pairs)
        for v, turn in enumerate(plane.turns):
            for k in range(len(turn)):
                turns = list(plane.turns)
                turns[v] = turn[k:] + turn[:k]
                self.assertEqual(even_value(Plane(6, plane.edges, turns), pairs), expected)

    def test_pairs_with_0(self):
        for seed, plane in enumerate(planes() + wheels_and_many_darts()):
            many = len(plane.edges)
            choose = random.Random(seed).randrange
            self.check(plane, [((0, 1), (0, 1))] * many)
            self.check(plane, [((0, 1), (2, 1))] * many)
            self.check(plane, [((2, 1), (0, 1))] * many)
            pairs = some_pairs(many, 900 + seed)
            self.check(plane, [((0, 1), out) if choose(2) else (taken, (0, 1)) for taken, out in pairs])

    def test_too_few_or_too_many_pairs_then_too_large(self):
        one = ((1, 1), (1, 1))
        for plane in planes():
            many = len(plane.edges)
            for wrong in [many + 1, many + 2] + ([many - 1, 0] if many else []):
                with self.assertRaises(InvalidWeight):
                    even_value(plane, [one] * wrong)
        for count, many in ((12, 11), (12, 24), (1, 24), (2, 24)):
            value = even_value(Plane(*crowd(count, many)), [one] * many)
            self.assertEqual(value, (2 ** (many - count + 1), 1))
        for count, many in ((13, 12), (13, 24), (12, 25), (1, 25), (100, 99), (1, 160)):
            plane = Plane(*crowd(count, many))
            with self.assertRaises(TooLarge):
                even_value(plane, [one] * many)
            for wrong in (0, many - 1, many + 1):
                with self.assertRaises(InvalidWeight):
                    even_value(plane, [one] * wrong)

    def test_pairs_stay_as_they_were_and_results_come_again(self):
        plane = Plane(*drawn_wheel(4))
        pairs = some_pairs(8, 1)
        before = list(pairs)
        self.assertEqual(even_value(plane, pairs), even_value(plane, pairs))
        self.assertEqual(pairs, before)


class PlaneValues(unittest.TestCase):
    def test_against_the_plane_sum(self):
        for seed, plane in enumerate(planes()):
            couplings = some_couplings(len(plane.edges), seed)
            expected = plain_plane_sum(plane.count, plane.edges, couplings)
            for x in NUMBERS:
                found = plane_value(plane, couplings, x)
                self.assertTrue(is_fraction(found))
                self.assertEqual(found, exact(plain_value(expected, x, (1, 1))))

    def test_examples(self):
        self.assertEqual(plane_value(SINGLE, [], (7, 2)), (2, 1))
        self.assertEqual(plane_value(Plane(1, [(0, 0)], [(0, 1)]), [9], (-7, 2)), (2, 1))
        self.assertEqual(plane_value(Plane(*row_of_vertices(2)), [3], (1, 2)), (9, 4))
        self.assertEqual(plane_value(Plane(*row_of_vertices(2)), [-3], (-1, 2)), (-14, 1))
        self.assertEqual(plane_value(TRIANGLE, [1, 1, 1], (-1, 1)), (8, 1))
        self.assertEqual(plane_value(TRIANGLE, [1, 1, 1], (2, 1)), (26, 1))


class SumsByDimers(unittest.TestCase):
    def test_against_the_plane_sum(self):
        for seed, plane in enumerate(planes()):
            many = len(plane.edges)
            for couplings in (small_couplings(many, seed, 40), small_couplings(many, seed + 50, 12), [0] * many):
                found = sum_by_dimers(plane, couplings)
                self.assertTrue(is_polynomial(found))
                self.assertEqual(found, plane_sum(plane, couplings))
                self.assertEqual(found, plain_plane_sum(plane.count, plane.edges, couplings))

    def test_examples(self):
        self.assertEqual(sum_by_dimers(SINGLE, []), (((0, 0), 2),))
        self.assertEqual(sum_by_dimers(Plane(1, [(0, 0)], [(0, 1)]), [-9]), (((0, 0), 2),))
        self.assertEqual(sum_by_dimers(Plane(*row_of_vertices(2)), [-9]), (((-9, 0), 2), ((0, 0), 2)))
        self.assertEqual(sum_by_dimers(TRIANGLE, [1, 2, -4]), (((-3, 0), 2), ((-2, 0), 2), ((0, 0), 2), ((3, 0), 2)))

    def test_couplings_that_are_too_large_together(self):
        for plane in (Plane(*row_of_vertices(6)), Plane(*side_by_side(5)), Plane(*nested_loops(5))):
            for couplings in ([9, 9, 9, 9, 4], [-9, -9, -9, -9, -4], [9, -9, 8, -7, 7], [8] * 5, [0, 0, 0, 0, 9]):
                self.assertEqual(sum_by_dimers(plane, couplings), plane_sum(plane, couplings))
            for couplings in ([9, 9, 9, 9, 5], [-9, -9, -9, -9, -5], [9, -9, 8, -8, 7], [9] * 5):
                with self.subTest(couplings=couplings), self.assertRaises(TooLarge):
                    sum_by_dimers(plane, couplings)
            with self.assertRaises(InvalidWeight):
                sum_by_dimers(plane, [9, 9, 9, 9, 10])
            with self.assertRaises(InvalidWeight):
                sum_by_dimers(plane, [9] * 6)


class Both(unittest.TestCase):
    def functions(self):
        return [sum_by_dimers, lambda plane, couplings: plane_value(plane, couplings, (1, 2))]

    def test_too_few_too_many_or_too_large_couplings(self):
        for plane in planes():
            for function in self.functions():
                for couplings in wrong_couplings(len(plane.edges)):
                    with self.assertRaises(InvalidWeight):
                        function(plane, couplings)

    def test_too_many_vertices_or_edges(self):
        for function in self.functions():
            for count, many in ((12, 11), (12, 24), (1, 24)):
                self.assertTrue(function(Plane(*crowd(count, many)), [1] * many))
            for count, many in ((13, 12), (13, 24), (12, 25), (1, 25), (100, 99), (1, 160)):
                plane = Plane(*crowd(count, many))
                with self.assertRaises(TooLarge):
                    function(plane, [0] * many)
                for couplings in ([0] * (many - 1), [0] * (many + 1), [0] * (many - 1) + [10]):
                    with self.assertRaises(InvalidWeight):
                        function(plane, couplings)

    def test_the_largest_couplings_have_a_value(self):
        for j in (-9, 9):
            found = plane_value(Plane(*three_squares()), [j] * 24, (1, 3))
            self.assertEqual(found, exact(plain_value(plane_sum(Plane(*three_squares()), [j] * 24), (1, 3), (1, 1))))

    def test_the_largest_ones_and_the_time_that_they_need(self):
        made = (three_squares(), nested_loops(24), side_by_side(24), crowd(12, 24), grown(93, 11, 13), grown(94, 5, 19))
        for seed, handed in enumerate(made):
            plane = Plane(*handed)
            self.assertEqual(len(plane.edges), 24)
            couplings = some_couplings(24, seed)
            found, needed = timed(plane_value, plane, couplings, (-3, 7))
            self.assertEqual(found, exact(plain_value(plane_sum(plane, couplings), (-3, 7), (1, 1))))
            self.assertLess(needed, 10)
            couplings = [2 if e % 3 else -1 for e in range(24)]
            self.assertEqual(sum(map(abs, couplings)), 40)
            found, needed = timed(sum_by_dimers, plane, couplings)
            self.assertEqual(found, plane_sum(plane, couplings))
            self.assertLess(needed, 20)

    def test_couplings_stay_as_they_were_and_results_come_again(self):
        plane = Plane(*drawn_wheel(4))
        couplings = small_couplings(8, 5, 40)
        before = list(couplings)
        for function in self.functions():
            self.assertEqual(function(plane, couplings), function(plane, couplings))
        self.assertEqual(couplings, before)


if __name__ == "__main__":
    unittest.main()
