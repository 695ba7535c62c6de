"""Point 16, and spinfield/loops.py."""

import unittest
from itertools import combinations

from helper import (
    is_integer, is_polynomial, largest, plain_even_sets, plain_sum, samples, samples_without_field, without_y,
)
from spinfield.errors import HasField, TooLarge
from spinfield.loops import even_sets, sum_by_loops
from spinfield.spins import Spins, sum_by_states


def near(count, many):
    """So many edges, the ring of all vertices among them."""
    around = [(v, v + 1) for v in range(count - 1)] + [(0, count - 1)]
    others = [pair for pair in combinations(range(count), 2) if pair not in around]
    return [(u, v, (u + v) % 3 + 1) for u, v in sorted(around + others[:many - count])]


class EvenSets(unittest.TestCase):
    def test_examples(self):
        examples = [
            (Spins([0], []), [()]),
            (Spins([0, 0, 0], []), [()]),
            (Spins([0, 0], [(0, 1, 1)]), [()]),
            (Spins([0] * 4, [(0, 1, 1), (1, 2, 1), (2, 3, 1)]), [()]),
            (Spins([0] * 3, [(0, 1, 1), (0, 2, 1), (1, 2, 1)]), [(), (0, 1, 2)]),
            (Spins([0] * 4, [(0, 1, 1), (1, 2, 1), (1, 3, 1), (2, 3, 1)]), [(), (1, 2, 3)]),
            # A square with a diagonal.
            (Spins([0] * 4, [(0, 1, 1), (0, 2, 1), (0, 3, 1), (1, 2, 1), (2, 3, 1)]),
             [(), (0, 1, 3), (0, 2, 3, 4), (1, 2, 4)]),
            # Two triangles aside from each other.
            (Spins([0] * 6, [(0, 1, 1), (0, 2, 1), (1, 2, 1), (3, 4, 1), (3, 5, 1), (4, 5, 1)]),
             [(), (0, 1, 2), (0, 1, 2, 3, 4, 5), (3, 4, 5)]),
        ]
        for spins, expected in examples:
            with self.subTest(edges=spins.edges):
                self.assertEqual(even_sets(spins), expected)

    def test_samples(self):
        for spins in samples():
            found = even_sets(spins)
            self.assertIs(type(found), list)
            self.assertEqual(found, plain_even_sets(len(spins.fields), spins.edges))
            self.assertTrue(all(type(one) is tuple and all(is_integer(e) for e in one) for one in found))

    def test_the_list_is_a_new_one_each_time(self):
        spins = Spins([0] * 3, [(0, 1, 1), (0, 2, 1), (1, 2, 1)])
        even_sets(spins).clear()
        self.assertEqual(even_sets(spins), [(), (0, 1, 2)])

    def test_8192_of_them_are_told(self):
        for spins in (largest(True), Spins([0] * 12, near(12, 24)), Spins([0] * 9, near(9, 21))):
            found = even_sets(spins)
            self.assertEqual(len(found), 8192)
            self.assertTrue(all(one < other for one, other in zip(found, found[1:])))
            for one in found:
                self.assertTrue(all(before < behind for before, behind in zip(one, one[1:])))
                odd = 0
                for e in one:
                    odd ^= 1 << spins.edges[e][0] ^ 1 << spins.edges[e][1]
                self.assertEqual(odd, 0)

    def test_more_are_too_many(self):
        for spins in (
            Spins([0] * 11, near(11, 24)),
            # The same edges, and a vertex aside.
            Spins([0] * 12, near(11, 24)),
            Spins([0] * 9, near(9, 22)),
            Spins([1] * 8, near(8, 24)),
        ):
            with self.subTest(edges=spins.edges), self.assertRaises(TooLarge):
                even_sets(spins)

    def test_one_less_than_too_many(self):
        self.assertEqual(len(even_sets(Spins([3] * 8, near(8, 20)))), 8192)
        self.assertEqual(len(even_sets(Spins([0] * 8, near(8, 19)))), 4096)


class SumsByLoops(unittest.TestCase):
    def test_examples(self):
        examples = [
            (Spins([0], []), (((0, 0), 2),)),
            (Spins([0, 0, 0], []), (((0, 0), 8),)),
            (Spins([0, 0], [(0, 1, 4)]), (((0, 0), 2), ((4, 0), 2))),
            (Spins([0, 0], [(0, 1, -4)]), (((-4, 0), 2), ((0, 0), 2))),
            (Spins([0] * 3, [(0, 1, 1), (0, 2, 1), (1, 2, 1)]), (((0, 0), 2), ((2, 0), 6))),
            (Spins([0] * 3, [(0, 1, 1), (0, 2, 1), (1, 2, -2)]), (((-1, 0), 4), ((0, 0), 2), ((2, 0), 2))),
        ]
        for spins, expected in examples:
            with self.subTest(edges=spins.edges):
                self.assertEqual(sum_by_loops(spins), expected)

    def test_samples(self):
        for spins in samples_without_field():
            found = sum_by_loops(spins)
            self.assertTrue(is_polynomial(found))
            self.assertEqual(found, without_y(plain_sum(spins.fields, spins.edges)))

    def test_where_the_even_sets_are_too_many_for_a_list(self):
        spins = Spins([0] * 11, near(11, 24))
        self.assertEqual(sum_by_loops(spins), without_y(sum_by_states(spins)))

    def test_a_field_is_refused(self):
        edges = [(0, 1, 1), (0, 2, 1), (1, 2, 1)]
        for place in range(3):
            for field in (-9, -1, 1, 9):
                fields = [0, 0, 0]
                fields[place] = field
                with self.assertRaises(HasField):
                    sum_by_loops(Spins(fields, edges))
        with self.assertRaises(HasField):
            sum_by_loops(Spins([1, -1], []))
        self.assertEqual(sum_by_loops(Spins([0, 0], [])), (((0, 0), 4),))

    def test_spins_stay_as_they_were_and_results_come_again(self):
        for spins in samples_without_field():
            fields, edges = spins.fields, spins.edges
            first = (even_sets(spins), sum_by_loops(spins))
            self.assertEqual((spins.fields, spins.edges), (fields, edges))
            self.assertEqual((even_sets(spins), sum_by_loops(spins)), first)


if __name__ == "__main__":
    unittest.main()
