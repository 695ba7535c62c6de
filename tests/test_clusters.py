"""Points 13, 14 and 15, and spinfield/clusters.py."""

import unittest

from helper import (
    is_polynomial, largest, plain_cluster_polynomial, plain_colour_sum, plain_sum, samples, samples_without_field,
    without_y,
)
from spinfield.clusters import cluster_polynomial, colour_sum, sum_by_clusters
from spinfield.errors import HasField
from spinfield.polynomials import value
from spinfield.spins import Spins, sum_by_states

ONE = (((0, 0), 1),)


class SumsByClusters(unittest.TestCase):
    def test_examples(self):
        self.assertEqual(sum_by_clusters(Spins([0], [])), (((0, 0), 1), ((0, 1), 1)))
        self.assertEqual(sum_by_clusters(Spins([-3], [])), (((-3, 1), 1), ((0, 0), 1)))
        found = sum_by_clusters(Spins([0, 1], [(0, 1, 2)]))
        self.assertEqual(found, (((0, 0), 1), ((1, 2), 1), ((2, 1), 1), ((3, 1), 1)))

    def test_samples(self):
        for spins in samples() + samples_without_field():
            found = sum_by_clusters(spins)
            self.assertTrue(is_polynomial(found))
            self.assertEqual(found, plain_sum(spins.fields, spins.edges))


class ClusterPolynomials(unittest.TestCase):
    def test_examples(self):
        examples = [
            (Spins([0], []), (((1, 0), 1),)),
            (Spins([0, 0, 0], []), (((3, 0), 1),)),
            (Spins([0, 0], [(0, 1, 1)]), (((1, 1), 1), ((2, 0), 1))),
            # The example of the interface.
            (Spins([0, 0, 0], [(0, 1, 1), (1, 2, 1)]), (((1, 2), 1), ((2, 1), 2), ((3, 0), 1))),
            # A triangle: each two edges join all vertices, and so do all three.
            (Spins([0, 0, 0], [(0, 1, 1), (0, 2, 1), (1, 2, 1)]),
             (((1, 2), 3), ((1, 3), 1), ((2, 1), 3), ((3, 0), 1))),
            # An edge, and a vertex aside.
            (Spins([0, 0, 0], [(0, 2, 1)]), (((2, 1), 1), ((3, 0), 1))),
        ]
        for spins, expected in examples:
            with self.subTest(edges=spins.edges):
                self.assertEqual(cluster_polynomial(spins), expected)

    def test_samples(self):
        for spins in samples():
            found = cluster_polynomial(spins)
            self.assertTrue(is_polynomial(found))
            self.assertEqual(found, plain_cluster_polynomial(len(spins.fields), spins.edges))
            self.assertEqual(value(found, (1, 1), (1, 1)), (2 ** len(spins.edges), 1))

    def test_couplings_and_fields_do_not_change_it(self):
        for spins in samples():
            other = Spins([(h + 4) % 9 for h in spins.fields], [(u, v, -j) for u, v, j in spins.edges])
            plain = Spins([0 for h in spins.fields], [(u, v, 9) for u, v, j in spins.edges])
            self.assertEqual(cluster_polynomial(other), cluster_polynomial(spins))
            self.assertEqual(cluster_polynomial(plain), cluster_polynomial(spins))


class ColourSums(unittest.TestCase):
    def test_examples(self):
        pair = Spins([0, 0], [(0, 1, -3)])
        self.assertEqual(colour_sum(pair, 1), ONE)
        self.assertEqual(colour_sum(pair, 2), (((-3, 0), 2), ((0, 0), 2)))
        self.assertEqual(colour_sum(pair, 3), (((-3, 0), 6), ((0, 0), 3)))
        self.assertEqual(colour_sum(pair, 9), (((-3, 0), 72), ((0, 0), 9)))
        self.assertEqual(colour_sum(Spins([0], []), 9), (((0, 0), 9),))
        self.assertEqual(colour_sum(Spins([0] * 12, []), 9), (((0, 0), 9 ** 12),))
        triangle = Spins([0, 0, 0], [(0, 1, 1), (0, 2, 1), (1, 2, 1)])
        self.assertEqual(colour_sum(triangle, 3), (((0, 0), 3), ((2, 0), 18), ((3, 0), 6)))

    def test_samples(self):
        for spins in samples_without_field():
            count = len(spins.fields)
            for colours in range(1, 10):
                if colours ** count <= 5000:
                    found = colour_sum(spins, colours)
                    self.assertTrue(is_polynomial(found))
                    self.assertEqual(found, plain_colour_sum(count, spins.edges, colours))

    def test_one_and_two_colours(self):
        for spins in samples_without_field():
            self.assertEqual(colour_sum(spins, 1), ONE)
            self.assertEqual(colour_sum(spins, 2), without_y(sum_by_states(spins)))

    def test_the_largest_size(self):
        spins = largest(False)
        self.assertEqual((len(spins.fields), len(spins.edges)), (12, 24))
        self.assertEqual(colour_sum(spins, 1), ONE)
        self.assertEqual(colour_sum(spins, 2), without_y(sum_by_states(spins)))

    def test_a_field_is_refused(self):
        for place in range(3):
            for field in (-9, -1, 1, 9):
                fields = [0, 0, 0]
                fields[place] = field
                for colours in (1, 2, 5):
                    with self.assertRaises(HasField):
                        colour_sum(Spins(fields, [(0, 1, 1)]), colours)
        with self.assertRaises(HasField):
            colour_sum(Spins([1, -1], []), 2)
        self.assertEqual(colour_sum(Spins([0, 0, 0], [(0, 1, 1)]), 2), (((0, 0), 4), ((1, 0), 4)))


class Unchanged(unittest.TestCase):
    def test_spins_stay_as_they_were_and_results_come_again(self):
        for spins in samples():
            fields, edges = spins.fields, spins.edges
            first = (sum_by_clusters(spins), cluster_polynomial(spins))
            self.assertEqual((spins.fields, spins.edges), (fields, edges))
            self.assertEqual((sum_by_clusters(spins), cluster_polynomial(spins)), first)


if __name__ == "__main__":
    unittest.main()
