"""Points 32 and 33, and spinfield/correlations.py."""

import unittest
from fractions import Fraction
from itertools import permutations, product

from helper import SAMPLES, exact, gathered, is_fraction, is_polynomial, largest, plain_sum, samples, timed
from spinfield.correlations import correlation, pair_by_transfer, pair_sum, ups_mean, ups_spread
from spinfield.errors import InvalidOrder, InvalidWeight
from spinfield.spins import Spins
from spinfield.transfer import least_width

POINTS = [((1, 1), (1, 1)), ((1, 2), (1, 1)), ((1, 2), (3, 1)), ((7, 3), (2, 5)), ((1, 100), (100, 1))]


def plain_pair_sum(fields, edges, u, v):
    """The pair sum, straight from point 32."""
    terms = []
    for state in product((0, 1), repeat=len(fields)):
        paid = sum(j for a, b, j in edges if state[a] != state[b])
        paid += sum(h for h, spin in zip(fields, state) if spin)
        terms.append(((paid, sum(state)), (2 * state[u] - 1) * (2 * state[v] - 1)))
    return gathered(terms)


def plain_mean(fields, edges, x, y, worth):
    """The mean over all states, straight from points 32 and 33; worth tells what is taken of a state."""
    above = below = Fraction(0)
    for state in product((0, 1), repeat=len(fields)):
        paid = sum(j for a, b, j in edges if state[a] != state[b])
        paid += sum(h for h, spin in zip(fields, state) if spin)
        weight = Fraction(*x) ** paid * Fraction(*y) ** sum(state)
        above += worth(state) * weight
        below += weight
    return above / below


def pairs_of(spins):
    return list(product(range(len(spins.fields)), repeat=2))


class PairSums(unittest.TestCase):
    def sum_of(self, spins, u, v):
        found = pair_sum(spins, u, v)
        self.assertTrue(is_polynomial(found))
        return found

    def test_worked_out_by_hand(self):
        # Both down, the second one up, the first one up, both up.
        apart = Spins([0, 0], [])
        self.assertEqual(self.sum_of(apart, 0, 1), (((0, 0), 1), ((0, 1), -2), ((0, 2), 1)))
        joined = Spins([0, 0], [(0, 1, 3)])
        self.assertEqual(self.sum_of(joined, 0, 1), (((0, 0), 1), ((0, 2), 1), ((3, 1), -2)))
        with_field = Spins([2, -1], [(0, 1, 1)])
        self.assertEqual(self.sum_of(with_field, 0, 1), (((0, 0), 1), ((0, 1), -1), ((1, 2), 1), ((3, 1), -1)))
        one = Spins([-4], [])
        self.assertEqual(self.sum_of(one, 0, 0), (((-4, 1), 1), ((0, 0), 1)))
        three = Spins([0, 0, 0], [(0, 1, 1), (1, 2, 1)])
        self.assertEqual(self.sum_of(three, 0, 2), (
            ((0, 0), 1), ((0, 3), 1), ((1, 1), -2), ((1, 2), -2), ((2, 1), 1), ((2, 2), 1),
        ))

    def test_straight_from_the_document(self):
        for spins in samples():
            for u, v in pairs_of(spins):
                expected = plain_pair_sum(spins.fields, spins.edges, u, v)
                self.assertEqual(self.sum_of(spins, u, v), expected, (spins.fields, spins.edges, u, v))

    def test_twice_the_same_vertex_gives_the_partition_polynomial(self):
        for spins in samples() + [largest(True)]:
            expected = plain_sum(spins.fields, spins.edges)
            for u in range(len(spins.fields)):
                self.assertEqual(self.sum_of(spins, u, u), expected)

    def test_the_same_for_both_orders_of_the_vertices(self):
        for spins in samples():
            for u, v in pairs_of(spins):
                self.assertEqual(pair_sum(spins, u, v), pair_sum(spins, v, u))


class Transfer(unittest.TestCase):
    def test_all_orders_of_small_spins(self):
        for spins in samples():
            if len(spins.fields) <= 4:
                for order in permutations(range(len(spins.fields))):
                    for u, v in pairs_of(spins):
                        found = pair_by_transfer(spins, list(order), u, v)
                        self.assertTrue(is_polynomial(found))
                        self.assertEqual(found, pair_sum(spins, u, v))

    def test_several_orders(self):
        for spins in samples() + [largest(True), largest(False)]:
            count = len(spins.fields)
            orders = [list(range(count)), list(range(count))[::-1], list(least_width(spins)[1])]
            orders.append(list(range(0, count, 2)) + list(range(1, count, 2)))
            for u, v in pairs_of(spins)[::5]:
                expected = pair_sum(spins, u, v)
                for order in orders:
                    self.assertEqual(pair_by_transfer(spins, order, u, v), expected)

    def test_refused_just_if_it_is_no_order(self):
        three = Spins([1, 0, -1], [(0, 1, 2), (1, 2, -3)])
        for order in product(range(-1, 4), repeat=3):
            for u, v in ((0, 0), (0, 2)):
                if sorted(order) == [0, 1, 2]:
                    pair_by_transfer(three, list(order), u, v)
                else:
                    with self.assertRaises(InvalidOrder, msg=order):
                        pair_by_transfer(three, list(order), u, v)
        for order in ([], [0], [0, 1], [1, 2], [0, 1, 2, 3], [0, 1, 2, 2], [0, 1, 2, 0, 1, 2]):
            with self.assertRaises(InvalidOrder, msg=order):
                pair_by_transfer(three, order, 0, 1)

    def test_the_order_stays_as_it_was(self):
        spins = Spins([1, 0, -1, 2], [(0, 1, 2), (1, 2, -3), (1, 3, 1)])
        order = [2, 0, 3, 1]
        first = pair_by_transfer(spins, order, 0, 3)
        self.assertEqual(order, [2, 0, 3, 1])
        self.assertEqual(pair_by_transfer(spins, order, 0, 3), first)
        self.assertEqual((spins.fields, spins.edges), ((1, 0, -1, 2), ((0, 1, 2), (1, 2, -3), (1, 3, 1))))


class Correlations(unittest.TestCase):
    def test_worked_out_by_hand(self):
        joined = Spins([0, 0], [(0, 1, 1)])
        # Alike: 1 and 1; apart: twice 1/2.
        self.assertEqual(correlation(joined, 0, 1, (1, 2), (1, 1)), (1, 3))
        self.assertEqual(correlation(joined, 0, 1, (2, 1), (1, 1)), (-1, 3))
        self.assertEqual(correlation(joined, 0, 1, (1, 1), (1, 1)), (0, 1))
        self.assertEqual(correlation(joined, 0, 0, (1, 2), (5, 1)), (1, 1))
        self.assertEqual(correlation(joined, 0, 1, (1, 2), (2, 1)), (3, 7))
        self.assertEqual(correlation(Spins([1, 0], []), 0, 1, (1, 2), (2, 1)), (0, 1))

    def test_straight_from_the_document(self):
        for spins in samples():
            for x, y in POINTS:
                for u, v in pairs_of(spins)[::3]:
                    found = correlation(spins, u, v, x, y)
                    self.assertTrue(is_fraction(found))
                    expected = plain_mean(
                        spins.fields, spins.edges, x, y,
                        lambda state, u=u, v=v: (2 * state[u] - 1) * (2 * state[v] - 1),
                    )
                    self.assertEqual(found, exact(expected))

    def test_at_least_0_and_not_less_for_a_greater_coupling(self):
        for fields, edges in SAMPLES[3:14]:
            count = len(fields)
            for x in ((1, 1), (1, 2), (9, 10)):
                for place in range(len(edges)):
                    for u, v in list(product(range(count), repeat=2))[::4]:
                        found = []
                        for size in (1, 2, 5, 9):
                            bare = [(a, b, abs(j)) for a, b, j in edges]
                            bare[place] = edges[place][:2] + (size,)
                            found.append(Fraction(*correlation(Spins([0] * count, bare), u, v, x, (1, 1))))
                        self.assertGreaterEqual(found[0], 0)
                        self.assertEqual(found, sorted(found))


class Ups(unittest.TestCase):
    def test_worked_out_by_hand(self):
        one = Spins([1], [])
        # Down with 1, up with 1/2 times 3.
        self.assertEqual(ups_mean(one, (1, 2), (3, 1)), (3, 5))
        self.assertEqual(ups_spread(one, (1, 2), (3, 1)), (6, 25))
        free = Spins([0] * 5, [])
        self.assertEqual(ups_mean(free, (7, 2), (1, 1)), (5, 2))
        self.assertEqual(ups_spread(free, (7, 2), (1, 1)), (5, 4))
        joined = Spins([0, 0], [(0, 1, 1)])
        self.assertEqual(ups_mean(joined, (1, 2), (1, 1)), (1, 1))
        self.assertEqual(ups_spread(joined, (1, 2), (1, 1)), (2, 3))

    def test_straight_from_the_document(self):
        for spins in samples():
            for x, y in POINTS:
                mean = plain_mean(spins.fields, spins.edges, x, y, sum)
                square = plain_mean(spins.fields, spins.edges, x, y, lambda state: sum(state) ** 2)
                found = ups_mean(spins, x, y), ups_spread(spins, x, y)
                self.assertTrue(all(map(is_fraction, found)))
                self.assertEqual(found, (exact(mean), exact(square - mean * mean)))

    def test_the_spread_is_above_0(self):
        for spins in samples():
            for x, y in POINTS:
                self.assertGreater(ups_spread(spins, x, y)[0], 0)


class Refused(unittest.TestCase):
    def test_just_if_x_or_y_is_not_above_0(self):
        numbers = [(-9, 1), (-1, 7), (0, 1), (1, 7), (1, 1), (9, 1)]
        for spins in (Spins([1], []), Spins([0, -1, 2], [(0, 1, 2), (1, 2, -3)])):
            last = len(spins.fields) - 1
            for x, y in product(numbers, repeat=2):
                for function, extra in ((correlation, (0, last)), (ups_mean, ()), (ups_spread, ())):
                    if x[0] > 0 and y[0] > 0:
                        function(spins, *extra, x, y)
                    else:
                        with self.subTest(function=function.__name__, x=x, y=y), self.assertRaises(InvalidWeight):
                            function(spins, *extra, x, y)


class Largest(unittest.TestCase):
    def test_the_time_that_they_need(self):
        spins = largest(True)
        self.assertEqual((len(spins.fields), len(spins.edges)), (12, 24))
        found, needed = timed(pair_sum, spins, 2, 9)
        self.assertLess(needed, 3)
        self.assertEqual(found, plain_pair_sum(spins.fields, spins.edges, 2, 9))
        for order in (list(range(12)), list(range(0, 12, 2)) + list(range(1, 12, 2))):
            again, needed = timed(pair_by_transfer, spins, order, 2, 9)
            self.assertLess(needed, 3)
            self.assertEqual(again, found)
        for x, y in (((1, 2), (3, 1)), ((9998, 9999), (123, 9998))):
            told, needed = timed(correlation, spins, 2, 9, x, y)
            self.assertLess(needed, 3)
            self.assertEqual(told, exact(plain_mean(
                spins.fields, spins.edges, x, y, lambda state: (2 * state[2] - 1) * (2 * state[9] - 1),
            )))
            for function in (ups_mean, ups_spread):
                told, needed = timed(function, spins, x, y)
                self.assertLess(needed, 3)
                self.assertTrue(0 < Fraction(*told) < 40)


if __name__ == "__main__":
    unittest.main()
