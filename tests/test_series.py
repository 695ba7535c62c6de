"""Points 34 and 35, and spinfield/series.py."""

import random
import unittest
from fractions import Fraction
from itertools import product
from math import comb, factorial

from helper import exact, is_fraction, largest, samples, timed
from spinfield.series import cumulants, exponential, logarithm, series_product
from spinfield.spins import Spins, all_states, cost, together


def some_series(order, first, seed):
    """A series with this first entry, and others of both signs and 0, the same one for the same seed."""
    choose = random.Random(100 * order + seed).randrange
    others = [Fraction(choose(-9, 10), choose(1, 8)) if choose(5) else Fraction(0) for _ in range(order)]
    return [Fraction(first)] + others


def told(numbers):
    return tuple(exact(number) for number in numbers)


def plain_product(first, second):
    """The product, with higher powers left out."""
    entries = [Fraction(0)] * len(first)
    for (i, a), (j, b) in product(enumerate(first), enumerate(second)):
        if i + j < len(entries):
            entries[i + j] += a * b
    return entries


def plain_exponential(series):
    """1 + f + f^2/2 + f^3/6 + .., straight from point 34."""
    total = [Fraction(0)] * len(series)
    power = [Fraction(1)] + [Fraction(0)] * (len(series) - 1)
    for k in range(len(series)):
        total = [a + b / factorial(k) for a, b in zip(total, power)]
        power = plain_product(power, series)
    return total


def plain_logarithm(series):
    """g - g^2/2 + g^3/3 - .., where g is the series without its 1."""
    rest = [Fraction(0)] + series[1:]
    total = [Fraction(0)] * len(series)
    power = rest
    for k in range(1, len(series)):
        total = [a - b * (-1) ** k / k for a, b in zip(total, power)]
        power = plain_product(power, rest)
    return total


def plain_cumulants(spins, count):
    """The cumulants from the means of the powers of the cost, by the rule that leads from the one to the other."""
    costs = [cost(spins, state) for state in all_states(spins)]
    means = [Fraction(sum(paid ** k for paid in costs), len(costs)) for k in range(count + 1)]
    found = []
    for n in range(1, count + 1):
        lower = sum(comb(n - 1, m - 1) * found[m - 1] * means[n - m] for m in range(1, n))
        found.append(means[n] - lower)
    return found


class Products(unittest.TestCase):
    def test_worked_out_by_hand(self):
        self.assertEqual(series_product(((2, 1),), ((-1, 3),)), ((-2, 3),))
        self.assertEqual(series_product(((1, 1), (1, 2)), ((1, 1), (-1, 2))), ((1, 1), (0, 1)))
        self.assertEqual(
            series_product(((0, 1), (1, 1), (2, 1)), ((1, 1), (1, 3), (5, 1))), ((0, 1), (1, 1), (7, 3)),
        )

    def test_all_orders(self):
        for order in range(13):
            for seed in range(6):
                first, second = some_series(order, seed - 2, seed), some_series(order, 3 - seed, seed + 50)
                found = series_product(told(first), told(second))
                self.assertTrue(type(found) is tuple and len(found) == order + 1 and all(map(is_fraction, found)))
                self.assertEqual(found, told(plain_product(first, second)))
                self.assertEqual(found, series_product(told(second), told(first)))


class Exponentials(unittest.TestCase):
    def test_of_the_interface(self):
        self.assertEqual(exponential(((0, 1), (1, 1), (0, 1))), ((1, 1), (1, 1), (1, 2)))

    def test_worked_out_by_hand(self):
        self.assertEqual(exponential(((0, 1),)), ((1, 1),))
        self.assertEqual(logarithm(((1, 1),)), ((0, 1),))
        self.assertEqual(exponential(((0, 1), (-2, 3))), ((1, 1), (-2, 3)))
        self.assertEqual(logarithm(((1, 1), (-2, 3))), ((0, 1), (-2, 3)))
        self.assertEqual(exponential(((0, 1), (0, 1), (1, 1), (0, 1), (0, 1))), (
            (1, 1), (0, 1), (1, 1), (0, 1), (1, 2),
        ))
        self.assertEqual(exponential(((0, 1), (1, 1)) + ((0, 1),) * 11), told(
            [Fraction(1, factorial(k)) for k in range(13)],
        ))
        self.assertEqual(logarithm(((1, 1), (1, 1)) + ((0, 1),) * 11), told(
            [Fraction(0)] + [Fraction(-(-1) ** k, k) for k in range(1, 13)],
        ))

    def test_straight_from_the_document(self):
        for order in range(13):
            for seed in range(6):
                series = some_series(order, 0, seed)
                found = exponential(told(series))
                self.assertTrue(type(found) is tuple and all(map(is_fraction, found)))
                self.assertEqual(found, told(plain_exponential(series)))
                series = some_series(order, 1, seed)
                found = logarithm(told(series))
                self.assertTrue(type(found) is tuple and all(map(is_fraction, found)))
                self.assertEqual(found, told(plain_logarithm(series)))

    def test_each_one_undoes_the_other(self):
        for order in range(13):
            for seed in range(6):
                series = told(some_series(order, 0, seed))
                self.assertEqual(logarithm(exponential(series)), series)
                series = told(some_series(order, 1, seed))
                self.assertEqual(exponential(logarithm(series)), series)

    def test_a_sum_becomes_a_product(self):
        for order in range(13):
            for seed in range(6):
                first, second = some_series(order, 0, seed), some_series(order, 0, seed + 70)
                whole = exponential(told([a + b for a, b in zip(first, second)]))
                self.assertEqual(whole, series_product(exponential(told(first)), exponential(told(second))))


class Cumulants(unittest.TestCase):
    def test_of_the_interface(self):
        self.assertEqual(cumulants(Spins([2], []), 2), ((1, 1), (1, 1)))

    def test_worked_out_by_hand(self):
        # Costs 0 and 1: the cumulants of a coin.
        coin = ((1, 2), (1, 4), (0, 1), (-1, 8), (0, 1), (1, 4))
        self.assertEqual(cumulants(Spins([1], []), 6), coin)
        self.assertEqual(cumulants(Spins([0, 0], [(0, 1, 1)]), 6), coin)
        self.assertEqual(cumulants(Spins([-1], []), 4), ((-1, 2), (1, 4), (0, 1), (-1, 8)))
        self.assertEqual(cumulants(Spins([0] * 12, []), 12), ((0, 1),) * 12)
        # Costs 0, 1, 1, 3 by one vertex with a field at the end of an edge.
        self.assertEqual(cumulants(Spins([0, 2], [(0, 1, 1)]), 2), ((3, 2), (5, 4)))

    def test_straight_from_the_document(self):
        for spins in samples():
            for count in range(1, 13):
                found = cumulants(spins, count)
                self.assertTrue(type(found) is tuple and len(found) == count and all(map(is_fraction, found)))
                self.assertEqual(found, told(plain_cumulants(spins, count)))

    def test_the_first_two_are_the_mean_and_the_variance(self):
        for spins in samples():
            costs = [cost(spins, state) for state in all_states(spins)]
            mean = Fraction(sum(costs), len(costs))
            variance = sum((paid - mean) ** 2 for paid in costs) / len(costs)
            self.assertEqual(cumulants(spins, 2), told([mean, variance]))
            self.assertEqual(cumulants(spins, 1), told([mean]))

    def test_spins_side_by_side(self):
        for first, second in product(samples()[:12], samples()[3:9]):
            both = cumulants(together(first, second), 12)
            sums = [Fraction(*a) + Fraction(*b) for a, b in zip(cumulants(first, 12), cumulants(second, 12))]
            self.assertEqual(both, told(sums))

    def test_the_largest_spins_with_the_time_that_they_need(self):
        for spins in (largest(True), largest(False)):
            for count in (1, 12):
                found, needed = timed(cumulants, spins, count)
                self.assertLess(needed, 5)
                self.assertEqual(found, told(plain_cumulants(spins, count)))

    def test_results_come_again_and_nothing_is_changed(self):
        for spins in samples():
            before = (spins.fields, spins.edges)
            first = cumulants(spins, 5)
            self.assertEqual(cumulants(Spins(list(spins.fields), list(spins.edges)), 5), first)
            self.assertEqual((spins.fields, spins.edges), before)


if __name__ == "__main__":
    unittest.main()
