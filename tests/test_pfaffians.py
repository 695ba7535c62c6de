"""Points 22 and 23, and spinfield/pfaffians.py."""

import random
import unittest
from fractions import Fraction
from itertools import product

from helper import (
    drawn_grid, drawn_wheel, exact, grown, is_fraction, is_integer, nested_loops, plain_dimer_sum, plain_faces,
    planes, row_of_vertices, side_by_side, star_of_vertices, timed,
)
from spinfield.errors import InvalidWeight, TooLarge
from spinfield.matchings import matching_sum
from spinfield.pfaffians import dimer_sum, good_orientation, is_good_orientation, pfaffian
from spinfield.planes import Plane, with_leaf

TRIANGLE = Plane(3, [(0, 1), (1, 2), (2, 0)], [(0, 5), (2, 1), (4, 3)])
SINGLE = Plane(1, [], [()])


def skew(size, entry):
    """The rows with entry(i, j) above the diagonal."""
    rows = [[(0, 1)] * size for _ in range(size)]
    for i in range(size):
        for j in range(i + 1, size):
            numerator, denominator = exact(entry(i, j))
            rows[i][j] = (numerator, denominator)
            rows[j][i] = (-numerator, denominator)
    return rows


def all_pairings(indexes):
    """All ways to put indexes into pairs, as told in point 23."""
    if not indexes:
        return [[]]
    first, rest = indexes[0], indexes[1:]
    return [
        [(first, other)] + pairs
        for other in rest
        for pairs in all_pairings([index for index in rest if index != other])
    ]


def plain_pfaffian(rows):
    """The Pfaffian, straight from point 23."""
    if len(rows) % 2:
        return (0, 1)
    total = Fraction(0)
    for pairs in all_pairings(list(range(len(rows)))):
        part = Fraction(1)
        for k, (i, j) in enumerate(pairs):
            part *= Fraction(*rows[i][j])
            for other, behind in pairs[k + 1:]:
                if i < other < j < behind:
                    part = -part
        total += part
    return exact(total)


def some_fractions(seed):
    """Fractions of both signs and 0, the same ones for the same seed."""
    choose = random.Random(seed).randrange
    return lambda i, j: Fraction(choose(13) - 6, 1 + choose(4)) if choose(3) else Fraction(0)


def some_weights(plane, seed):
    entry = some_fractions(seed)
    return [exact(entry(0, 1)) for _ in plane.edges]


class Pfaffians(unittest.TestCase):
    def test_of_the_interface(self):
        self.assertEqual(pfaffian([[(0, 1), (2, 1)], [(-2, 1), (0, 1)]]), (2, 1))

    def test_sizes_0_and_2(self):
        self.assertEqual(pfaffian([]), (1, 1))
        for weight in ((0, 1), (1, 1), (-3, 1), (5, 7), (-2, 9)):
            self.assertEqual(pfaffian(skew(2, lambda i, j: Fraction(*weight))), weight)

    def test_size_4_by_hand(self):
        entries = {(0, 1): 2, (0, 2): 3, (0, 3): 5, (1, 2): 7, (1, 3): 11, (2, 3): 13}
        self.assertEqual(pfaffian(skew(4, lambda i, j: entries[i, j])), (2 * 13 - 3 * 11 + 5 * 7, 1))
        self.assertEqual(pfaffian(skew(4, lambda i, j: Fraction(entries[i, j], 4))), (7, 4))

    def test_odd_sizes(self):
        for size in (1, 3, 5, 7, 119):
            self.assertEqual(pfaffian(skew(size, lambda i, j: i + j)), (0, 1))

    def test_straight_from_the_document(self):
        found = set()
        for seed in range(120):
            rows = skew((0, 2, 4, 6, 8)[seed % 5], some_fractions(seed))
            result = pfaffian(rows)
            self.assertTrue(is_fraction(result))
            self.assertEqual(result, plain_pfaffian(rows))
            found.add(result)
        self.assertGreater(len(found), 40)

    def test_zeros_where_a_pivot_would_stand(self):
        for size in (4, 6):
            pairs = [(i, j) for i in range(size) for j in range(i + 1, size)]
            for kept in product((0, 1), repeat=size - 1):
                rows = skew(size, lambda i, j: kept[j - 1] if i == 0 else 1 + pairs.index((i, j)))
                self.assertEqual(pfaffian(rows), plain_pfaffian(rows))
            for pairing in all_pairings(list(range(size))):
                rows = skew(size, lambda i, j: int((i, j) in pairing))
                self.assertEqual(pfaffian(rows), plain_pfaffian(rows))
                self.assertIn(pfaffian(rows), ((1, 1), (-1, 1)))
        self.assertEqual(pfaffian(skew(6, lambda i, j: 0)), (0, 1))
        # A pivot that becomes 0 behind the first step.
        rows = skew(6, lambda i, j: 1 if (i, j) != (2, 3) else 0)
        self.assertEqual(pfaffian(rows), plain_pfaffian(rows))

    def test_tables_that_are_not_square(self):
        for rows in (
            [[]], [[(0, 1), (1, 1)]], [[(0, 1)], [(0, 1)]], [[(0, 1), (1, 1)], [(-1, 1)]],
            [[(0, 1)], [(-1, 1), (0, 1)]],
            [[(0, 1), (1, 1), (0, 1)], [(-1, 1), (0, 1), (0, 1)]], [[], []], [[(0, 1)]] * 3,
            [[(0, 1), (1, 1)], [(-1, 1), (0, 1)], []],
        ):
            with self.subTest(rows=rows), self.assertRaises(InvalidWeight):
                pfaffian(rows)

    def test_entries_that_are_not_as_told(self):
        for rows in (
            [[(1, 1)]], [[(-1, 2)]], [[(1, 1), (2, 1)], [(-2, 1), (0, 1)]], [[(0, 1), (2, 1)], [(-2, 1), (1, 1)]],
            [[(0, 1), (2, 1)], [(2, 1), (0, 1)]], [[(0, 1), (2, 1)], [(-2, 3), (0, 1)]],
            [[(0, 1), (2, 1)], [(0, 1), (0, 1)]], [[(0, 1), (0, 1)], [(-1, 1), (0, 1)]],
        ):
            with self.subTest(rows=rows), self.assertRaises(InvalidWeight):
                pfaffian(rows)
        for i in range(5):
            for j in range(5):
                rows = skew(5, lambda i, j: i + j)
                rows[i][j] = (17, 2)
                with self.subTest(i=i, j=j), self.assertRaises(InvalidWeight):
                    pfaffian(rows)

    def test_too_many_rows(self):
        for size in (121, 122, 124):
            rows = skew(size, lambda i, j: 1)
            with self.assertRaises(TooLarge):
                pfaffian(rows)
            rows[size - 1][0] = (1, 1)
            with self.assertRaises(InvalidWeight):
                pfaffian(rows)
            rows[size - 1].pop()
            with self.assertRaises(InvalidWeight):
                pfaffian(rows)

    def test_the_largest_tables_and_the_time_that_they_need(self):
        # (x - y) / (x + y) for numbers 1, 2, .. gives the product of the entries.
        expected = Fraction(1)
        for i in range(40):
            for j in range(i):
                expected *= Fraction(j - i, i + j + 2)
        rows = skew(40, lambda i, j: Fraction(i - j, i + j + 2))
        self.assertEqual(pfaffian(rows), exact(expected))
        found, needed = timed(pfaffian, skew(120, lambda i, j: 1))
        self.assertEqual(found, (1, 1))
        self.assertLess(needed, 20)
        found, needed = timed(pfaffian, skew(120, lambda i, j: Fraction((i + 1) * (j + 1), 3)))
        product_of_all = 1
        for i in range(120):
            product_of_all *= i + 1
        self.assertEqual(found, exact(Fraction(product_of_all, 3 ** 60)))
        self.assertLess(needed, 20)
        found, needed = timed(pfaffian, skew(120, lambda i, j: (i * i * 7 + j * 5) % 19 - 9))
        self.assertTrue(is_fraction(found))
        self.assertLess(needed, 20)

    def test_rows_stay_as_they_were_and_results_come_again(self):
        rows = skew(6, some_fractions(3))
        before = [list(row) for row in rows]
        self.assertEqual(pfaffian(rows), pfaffian(rows))
        self.assertEqual(rows, before)


class Orientations(unittest.TestCase):
    def good_ones(self, plane):
        """All good orientations of a small plane graph, by the function itself."""
        return [numbers for numbers in product((0, 1), repeat=len(plane.edges)) if is_good_orientation(plane, numbers)]

    def test_triangle(self):
        # Face 0 has the darts 0, 2 and 4, face 1 the others.
        self.assertEqual(self.good_ones(TRIANGLE), [(0, 0, 1), (0, 1, 0), (1, 0, 0), (1, 1, 1)])

    def test_face_0_does_not_count(self):
        # Two vertices and two edges: face 0 has the darts 0 and 3, face 1 the darts 1 and 2.
        self.assertEqual(self.good_ones(Plane(*side_by_side(2))), [(0, 0), (1, 1)])
        self.assertEqual(self.good_ones(Plane(2, [(0, 1), (1, 0)], [(0, 3), (2, 1)])), [(0, 1), (1, 0)])
        # In a square with the darts 0, 2, 4, 6 an odd number of the other ones too.
        square = Plane(4, [(0, 1), (1, 2), (2, 3), (3, 0)], [(0, 7), (2, 1), (4, 3), (6, 5)])
        self.assertEqual(self.good_ones(square), [n for n in product((0, 1), repeat=4) if sum(n) % 2])

    def test_loops(self):
        for turn in ((0, 1), (1, 0)):
            self.assertEqual(self.good_ones(Plane(1, [(0, 0)], [turn])), [(1,)])
        self.assertEqual(self.good_ones(Plane(*nested_loops(2))), [(1, 1)])
        # Face 0 has the darts 0 and 2, the other faces one dart each.
        self.assertEqual(self.good_ones(Plane(1, [(0, 0), (0, 0)], [(0, 1, 2, 3)])), [(1, 1)])
        # Face 0 has the darts 0 and 3, the other faces one dart each.
        self.assertEqual(self.good_ones(Plane(1, [(0, 0), (0, 0)], [(0, 1, 3, 2)])), [(1, 0)])

    def test_edges_with_the_same_face_on_both_sides(self):
        for handed in (row_of_vertices(2), row_of_vertices(4), star_of_vertices(4)):
            plane = Plane(*handed)
            self.assertEqual(len(self.good_ones(plane)), 2 ** len(plane.edges))
        # Within face 1 of the triangle: either way, one of its darts goes along.
        inside = with_leaf(TRIANGLE, 0, 1)
        self.assertEqual(plain_faces(inside.edges, inside.turns), [(0, 2, 4), (1, 6, 7, 5, 3)])
        expected = [n for n in product((0, 1), repeat=4) if sum(n[:3]) % 2 == 0]
        self.assertEqual(self.good_ones(inside), expected)
        outside = with_leaf(TRIANGLE, 0, 0)
        self.assertEqual(self.good_ones(outside), [n for n in product((0, 1), repeat=4) if sum(n[:3]) % 2])

    def test_the_graph_without_edges(self):
        self.assertIs(is_good_orientation(SINGLE, ()), True)
        self.assertIs(is_good_orientation(SINGLE, (0,)), False)
        self.assertEqual(good_orientation(SINGLE), ())

    def test_tuples_that_are_no_orientations(self):
        self.assertIs(is_good_orientation(TRIANGLE, (1, 0, 0)), True)
        for numbers in (
            (), (1,), (1, 0), (1, 0, 0, 0), (1, 0, 0, 1), (1, 0, -1), (1, 0, 2), (-1, 0, 0), (3, 0, 0), (1, 2, 0),
            (1, 1, -1), (0, 0, 0),
        ):
            with self.subTest(numbers=numbers):
                self.assertIs(is_good_orientation(TRIANGLE, numbers), False)
        tree = Plane(*row_of_vertices(3))
        for numbers in ((0,), (0, 0, 0), (0, -1), (2, 0), (-1, -1)):
            self.assertIs(is_good_orientation(tree, numbers), False)

    def test_straight_from_the_document(self):
        for plane in planes():
            choose = random.Random(len(plane.edges)).randrange
            many = len(plane.edges)
            tried = [good_orientation(plane)] + [tuple(choose(2) for _ in range(many)) for _ in range(20)]
            for numbers in tried:
                expected = all(
                    sum(numbers[dart // 2] == dart % 2 for dart in face) % 2
                    for face in plain_faces(plane.edges, plane.turns)[1:]
                )
                self.assertIs(is_good_orientation(plane, numbers), bool(expected))

    def test_each_plane_graph_has_one(self):
        large = [
            row_of_vertices(100), star_of_vertices(100), side_by_side(100), side_by_side(160), nested_loops(160),
            drawn_grid(8, 10), drawn_wheel(8), grown(5, 40, 60),
        ]
        for plane in planes() + [Plane(*handed) for handed in large]:
            found, needed = timed(good_orientation, plane)
            self.assertIs(type(found), tuple)
            self.assertTrue(all(is_integer(number) for number in found))
            self.assertIs(is_good_orientation(plane, found), True)
            self.assertLess(needed, 5)

    def test_equal_graphs_have_the_same_one(self):
        for plane in planes():
            same = Plane(plane.count, list(plane.edges), [list(turn) for turn in plane.turns])
            self.assertEqual(good_orientation(same), good_orientation(plane))


class DimerSums(unittest.TestCase):
    def check(self, plane, weights):
        edges = [(u, v, weight) for (u, v), weight in zip(plane.edges, weights)]
        found = dimer_sum(plane, weights)
        self.assertTrue(is_fraction(found))
        self.assertEqual(found, matching_sum(plane.count, edges))
        if len(edges) <= 12:
            self.assertEqual(found, exact(plain_dimer_sum(plane.count, edges)))
        return found

    def test_examples(self):
        self.assertEqual(dimer_sum(SINGLE, []), (0, 1))
        edge = Plane(*row_of_vertices(2))
        for weight in ((3, 1), (-3, 4), (0, 1)):
            self.assertEqual(dimer_sum(edge, [weight]), weight)
        self.assertEqual(dimer_sum(Plane(*side_by_side(3)), [(1, 2), (1, 3), (-1, 6)]), (2, 3))
        self.assertEqual(dimer_sum(TRIANGLE, [(1, 1)] * 3), (0, 1))
        self.assertEqual(dimer_sum(Plane(*drawn_grid(2, 2)), [(2, 1), (3, 1), (5, 1), (7, 1)]), (41, 1))
        self.assertEqual(dimer_sum(Plane(*drawn_grid(2, 3)), [(1, 1)] * 7), (3, 1))
        self.assertEqual(dimer_sum(Plane(*drawn_grid(4, 4)), [(1, 1)] * 24), (36, 1))
        self.assertEqual(dimer_sum(Plane(*row_of_vertices(16)), [(-1, 1), (5, 1)] * 7 + [(2, 1)]), (-2, 1))

    def test_against_matching_sum(self):
        negative = 0
        for seed, plane in enumerate(planes()):
            self.check(plane, [(1, 1)] * len(plane.edges))
            for k in range(4):
                negative += self.check(plane, some_weights(plane, 10 * seed + k))[0] < 0
        self.assertGreater(negative, 3)

    def test_weights_that_cancel_each_other(self):
        self.assertEqual(dimer_sum(Plane(*side_by_side(2)), [(1, 2), (-1, 2)]), (0, 1))
        # Along the first row, and down from it: 2 * 3 - 2 * 3.
        grid = Plane(*drawn_grid(2, 2))
        self.assertEqual(grid.edges, ((0, 1), (2, 3), (0, 2), (1, 3)))
        self.assertEqual(dimer_sum(grid, [(2, 1), (3, 1), (-2, 1), (3, 1)]), (0, 1))

    def test_the_errors_in_their_order(self):
        for plane in planes():
            many = len(plane.edges)
            for wrong in [many + 1, many + 2] + ([many - 1, 0] if many else []):
                with self.assertRaises(InvalidWeight):
                    dimer_sum(plane, [(1, 1)] * wrong)
        for count in (17, 18, 100):
            plane = Plane(*row_of_vertices(count))
            with self.assertRaises(TooLarge):
                dimer_sum(plane, [(1, 1)] * (count - 1))
            with self.assertRaises(InvalidWeight):
                dimer_sum(plane, [(1, 1)] * count)
            with self.assertRaises(InvalidWeight):
                dimer_sum(plane, [(1, 1)] * (count - 2))
        for count in (15, 16):
            self.assertEqual(dimer_sum(Plane(*row_of_vertices(count)), [(1, 1)] * (count - 1)), (1 - count % 2, 1))

    def test_the_largest_ones_and_the_time_that_they_need(self):
        for handed in (drawn_grid(4, 4), grown(91, 15, 25), grown(92, 15, 145)):
            plane = Plane(*handed)
            weights = some_weights(plane, 4)
            found, needed = timed(dimer_sum, plane, weights)
            edges = [(u, v, weight) for (u, v), weight in zip(plane.edges, weights)]
            self.assertEqual(found, matching_sum(16, edges))
            self.assertLess(needed, 10)

    def test_weights_stay_as_they_were_and_results_come_again(self):
        plane = Plane(*drawn_grid(2, 4))
        weights = some_weights(plane, 8)
        before = list(weights)
        self.assertEqual(dimer_sum(plane, weights), dimer_sum(plane, weights))
        self.assertEqual(weights, before)


if __name__ == "__main__":
    unittest.main()
