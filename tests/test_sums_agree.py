"""Points 9, 12, 13, 15 and 16: the same polynomial in several ways."""

import unittest
from itertools import combinations

from helper import samples, without_y
from spinfield.clusters import colour_sum, sum_by_clusters
from spinfield.loops import sum_by_loops
from spinfield.spins import Spins, sum_by_states, without_field
from spinfield.transfer import least_width, sum_by_transfer


def mixed(count, step):
    """Spins with some of all edges, couplings of both signs, and fields."""
    pairs = [pair for k, pair in enumerate(combinations(range(count), 2)) if k % step == 0]
    edges = [(u, v, (u * 7 + v * 4 + step) % 19 - 9 or 1) for u, v in pairs]
    return Spins([(v * 8 + step) % 19 - 9 for v in range(count)], edges)


class Agreement(unittest.TestCase):
    def setUp(self):
        self.all_spins = samples() + [mixed(count, step) for count in range(2, 8) for step in (2, 3)]

    def test_couplings_of_both_signs_and_fields_occur(self):
        couplings = [j for spins in self.all_spins for _, _, j in spins.edges]
        fields = [h for spins in self.all_spins for h in spins.fields]
        self.assertTrue(min(couplings) < 0 < max(couplings))
        self.assertTrue(min(fields) < 0 < max(fields))

    def test_by_states_by_transfer_and_by_clusters(self):
        for spins in self.all_spins:
            expected = sum_by_states(spins)
            order = list(least_width(spins)[1])
            self.assertEqual(sum_by_transfer(spins, order), expected)
            self.assertEqual(sum_by_transfer(spins, order[::-1]), expected)
            self.assertEqual(sum_by_transfer(spins, list(range(len(order)))), expected)
            self.assertEqual(sum_by_clusters(spins), expected)

    def test_without_field_also_by_loops_and_by_colours(self):
        for spins in self.all_spins:
            bare = without_field(spins)
            expected = without_y(sum_by_states(bare))
            self.assertEqual(sum_by_loops(bare), expected)
            self.assertEqual(colour_sum(bare, 2), expected)
            self.assertEqual(without_y(sum_by_clusters(bare)), expected)


if __name__ == "__main__":
    unittest.main()
