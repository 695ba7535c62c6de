"""Point 21, and spinfield/matchings.py."""

import random
import unittest
from fractions import Fraction
from itertools import combinations

from helper import exact, gathered, is_fraction, is_polynomial, plain_dimer_sum, plain_matchings, timed
from spinfield.errors import InvalidWeight, TooLarge
from spinfield.matchings import matching_polynomial, matching_sum

ONE = (1, 1)
FUNCTIONS = (matching_sum, matching_polynomial)


def by_sizes(*numbers):
    """The polynomial with so many matchings of each size."""
    return tuple(((size, 0), many) for size, many in enumerate(numbers) if many)


def ring(count, weight=ONE):
    return [(v, (v + 1) % count, weight) for v in range(count)]


def complete(count, weight=ONE):
    return [(u, v, weight) for u, v in combinations(range(count), 2)]


def some_graph(seed):
    """A graph with loops, several edges with the same ends, and weights of both signs and 0."""
    choose = random.Random(seed).randrange
    count = 1 + seed % 8
    edges = []
    for _ in range(choose(13)):
        edges.append((choose(count), choose(count), exact(Fraction(choose(9) - 3, 1 + choose(4)))))
    return count, edges


class DimerSums(unittest.TestCase):
    def check(self, count, edges, expected):
        with self.subTest(count=count, edges=edges):
            self.assertEqual(matching_sum(count, edges), expected)

    def test_without_edges(self):
        self.check(0, [], (1, 1))
        for count in (1, 2, 3, 15, 16):
            self.check(count, [], (0, 1))

    def test_two_vertices(self):
        for weight in ((1, 1), (3, 7), (-5, 2), (0, 1)):
            self.check(2, [(0, 1, weight)], weight)
            self.check(2, [(1, 0, weight)], weight)
        self.check(2, [(0, 1, (1, 2)), (1, 0, (1, 3))], (5, 6))
        self.check(2, [(0, 1, (1, 2)), (0, 1, (-1, 2))], (0, 1))
        self.check(2, [(0, 1, (2, 3)), (0, 1, (-1, 6)), (0, 1, (1, 2))], (1, 1))

    def test_loops(self):
        self.check(1, [(0, 0, (5, 1))], (0, 1))
        self.check(2, [(0, 0, (5, 1)), (1, 1, (5, 1))], (0, 1))
        self.check(2, [(0, 0, (5, 1)), (0, 1, (2, 1)), (1, 1, (7, 1))], (2, 1))

    def test_odd_numbers_of_vertices(self):
        for count in (1, 3, 5, 7, 9, 15):
            self.check(count, complete(count), (0, 1))

    def test_rings_and_all_pairs(self):
        for count in (4, 6, 16):
            self.check(count, ring(count), (2, 1))
        self.check(4, ring(4, (2, 3)), (8, 9))
        self.check(4, [(0, 1, (2, 1)), (1, 2, (3, 1)), (2, 3, (5, 1)), (3, 0, (7, 1))], (31, 1))
        self.check(4, [(0, 1, (2, 1)), (1, 2, (3, 1)), (2, 3, (-5, 1)), (3, 0, (7, 1))], (11, 1))
        for count, many in ((2, 1), (4, 3), (6, 15), (8, 105)):
            self.check(count, complete(count), (many, 1))

    def test_sums_that_cancel_each_other(self):
        self.check(4, [(0, 1, (2, 1)), (1, 2, (3, 1)), (2, 3, (-3, 1)), (3, 0, (2, 1))], (0, 1))
        self.check(4, [(0, 1, ONE), (2, 3, ONE), (1, 2, (1, 2)), (3, 0, (-2, 1))], (0, 1))

    def test_zero_leaves_an_edge_out(self):
        for e in range(6):
            edges = ring(6, (2, 1))
            edges[e] = edges[e][:2] + ((0, 1),)
            self.check(6, edges, (8, 1))

    def test_two_parts(self):
        parts = [(0, 2, (2, 1)), (1, 3, (5, 7))]
        self.check(4, parts, (10, 7))
        self.check(6, parts + [(4, 5, (7, 5))], (2, 1))
        self.check(6, parts, (0, 1))
        self.check(4, [(0, 1, ONE), (0, 2, ONE), (0, 3, ONE)], (0, 1))

    def test_straight_from_the_document(self):
        sums = set()
        for seed in range(160):
            count, edges = some_graph(seed)
            found = matching_sum(count, edges)
            self.assertTrue(is_fraction(found))
            self.assertEqual(found, exact(plain_dimer_sum(count, edges)))
            sums.add(found)
        self.assertGreater(len(sums), 20)


class MatchingPolynomials(unittest.TestCase):
    def check(self, count, edges, expected):
        with self.subTest(count=count, edges=edges):
            self.assertEqual(matching_polynomial(count, edges), expected)

    def test_of_the_interface(self):
        self.check(4, ring(4), (((0, 0), 1), ((1, 0), 4), ((2, 0), 2)))

    def test_small_graphs(self):
        for count in (0, 1, 2, 16):
            self.check(count, [], by_sizes(1))
        self.check(1, [(0, 0, ONE)], by_sizes(1))
        self.check(2, [(0, 1, ONE)], by_sizes(1, 1))
        self.check(2, [(0, 1, ONE), (1, 0, ONE), (0, 0, ONE), (1, 1, ONE)], by_sizes(1, 2))
        self.check(3, [(0, 1, ONE), (1, 2, ONE)], by_sizes(1, 2))
        self.check(3, ring(3), by_sizes(1, 3))
        self.check(5, ring(5), by_sizes(1, 5, 5))
        self.check(4, complete(4), by_sizes(1, 6, 3))
        self.check(4, [(0, 1, ONE), (0, 2, ONE), (0, 3, ONE)], by_sizes(1, 3))
        self.check(4, [(0, 1, ONE), (2, 3, ONE), (2, 3, ONE)], by_sizes(1, 3, 2))

    def test_weights_have_no_meaning(self):
        for weight in ((0, 1), (-1, 1), (3, 4)):
            self.check(4, ring(4, weight), by_sizes(1, 4, 2))
        self.check(2, [(0, 1, (1, 1)), (0, 1, (-1, 1))], by_sizes(1, 2))
        for seed in range(40):
            count, edges = some_graph(seed)
            bare = [(u, v, ONE) for u, v, _ in edges]
            self.assertEqual(matching_polynomial(count, edges), matching_polynomial(count, bare))

    def test_straight_from_the_document(self):
        for seed in range(160):
            count, edges = some_graph(seed)
            found = matching_polynomial(count, edges)
            self.assertTrue(is_polynomial(found))
            self.assertEqual(found, gathered([((len(chosen), 0), 1) for chosen in plain_matchings(edges)]))


class Both(unittest.TestCase):
    def test_ends_that_are_not_there(self):
        for count in (0, 1, 2, 5, 16):
            for edge in ((-1, 0), (0, -1), (count, 0), (0, count), (count, count), (-1, -1), (-count - 1, 0)):
                for edges in ([edge + (ONE,)], ring(count)[:1] + [edge + ((0, 1),)]):
                    for function in FUNCTIONS:
                        with self.subTest(count=count, edges=edges), self.assertRaises(InvalidWeight):
                            function(count, edges)

    def test_too_many_vertices(self):
        for function in FUNCTIONS:
            self.assertTrue(function(16, ring(16)))
            for count in (17, 18, 30):
                for edges in ([], ring(count), [(0, 0, ONE)]):
                    with self.assertRaises(TooLarge):
                        function(count, edges)
                for u, v in ((0, count), (count, 0), (-1, 3), (3, -1)):
                    with self.assertRaises(InvalidWeight):
                        function(count, ring(count) + [(u, v, ONE)])

    def test_the_order_of_edges_and_ends_does_not_matter(self):
        for seed in range(40):
            count, edges = some_graph(seed)
            turned = [(v, u, weight) for u, v, weight in edges[::-1]]
            for function in FUNCTIONS:
                self.assertEqual(function(count, turned), function(count, edges))

    def test_nothing_that_was_passed_is_changed_and_results_come_again(self):
        for seed in range(40):
            count, edges = some_graph(seed)
            before = list(edges)
            for function in FUNCTIONS:
                self.assertEqual(function(count, edges), function(count, edges))
            self.assertEqual(edges, before)

    def test_the_largest_ones_and_the_time_that_they_need(self):
        total, needed = timed(matching_sum, 16, complete(16, (2, 3)))
        self.assertEqual(total, exact(2027025 * plain_dimer_sum(16, [(v, v + 1, (2, 3)) for v in range(0, 16, 2)])))
        self.assertLess(needed, 10)
        counted, needed = timed(matching_polynomial, 16, complete(16) * 2)
        numbers = [1, 120, 5460, 120120, 1351350, 7567560, 18918900, 16216200, 2027025]
        self.assertEqual(counted, by_sizes(*[many * 2 ** size for size, many in enumerate(numbers)]))
        self.assertLess(needed, 10)


if __name__ == "__main__":
    unittest.main()
