"""Points 11 and 12, and spinfield/transfer.py."""

import unittest
from itertools import combinations, permutations

from helper import is_integer, is_polynomial, largest, plain_sum, plain_width, samples
from spinfield.errors import InvalidOrder
from spinfield.spins import Spins, all_states, cost, sum_by_states
from spinfield.transfer import least_by_transfer, least_width, sum_by_transfer, width_of


def ring(count):
    return Spins([0] * count, sorted([(v, v + 1, 1) for v in range(count - 1)] + [(0, count - 1, 1)]))


def complete(count):
    return Spins([0] * count, [(u, v, 1) for u, v in combinations(range(count), 2)])


def grid(rows, columns):
    down = [(v, v + columns, 1) for v in range((rows - 1) * columns)]
    along = [(v, v + 1, 1) for v in range(rows * columns) if (v + 1) % columns]
    return Spins([0] * (rows * columns), sorted(down + along))


def path(count):
    return Spins([0] * count, [(v, v + 1, 1) for v in range(count - 1)])


def star(count):
    return Spins([0] * count, [(0, v, 1) for v in range(1, count)])


def several_orders(count):
    """The way up, the way down, and three in which the vertices are mixed."""
    up = list(range(count))
    mixed = [sorted(up, key=lambda v: ((v * step + 3) % 13, v)) for step in (5, 7, 11)]
    return [up, up[::-1]] + mixed


def plain_least(spins):
    return min((cost(spins, state), state) for state in all_states(spins))


class Widths(unittest.TestCase):
    def test_of_orders(self):
        self.assertEqual(width_of(Spins([1], []), [0]), 0)
        self.assertEqual(width_of(Spins([1, 2], []), [1, 0]), 0)
        self.assertEqual(width_of(Spins([1, 2], [(0, 1, 1)]), [0, 1]), 1)
        self.assertEqual(width_of(path(5), [0, 1, 2, 3, 4]), 1)
        self.assertEqual(width_of(path(5), [0, 2, 4, 1, 3]), 3)
        self.assertEqual(width_of(path(5), [2, 1, 3, 0, 4]), 2)
        self.assertEqual(width_of(star(6), [0, 1, 2, 3, 4, 5]), 1)
        self.assertEqual(width_of(star(6), [1, 2, 3, 4, 5, 0]), 5)
        self.assertEqual(width_of(star(6), [1, 2, 0, 3, 4, 5]), 2)
        self.assertEqual(width_of(complete(5), [3, 1, 0, 2, 4]), 4)
        self.assertEqual(width_of(ring(6), [0, 1, 2, 3, 4, 5]), 2)
        self.assertEqual(width_of(ring(6), [0, 2, 4, 1, 3, 5]), 3)

    def test_of_all_orders_of_samples(self):
        for spins in samples():
            if len(spins.fields) <= 5:
                for order in permutations(range(len(spins.fields))):
                    self.assertEqual(width_of(spins, list(order)), plain_width(spins.edges, list(order)))

    def test_of_some_orders_of_large_spins(self):
        for spins in (largest(True), grid(3, 4), star(12)):
            for order in several_orders(12):
                self.assertEqual(width_of(spins, order), plain_width(spins.edges, order))

    def test_of_spins(self):
        known = [
            (Spins([1], []), 0), (Spins([1, 2, 3], []), 0), (path(2), 1), (path(12), 1), (star(12), 1), (ring(3), 2),
            (ring(12), 2), (complete(4), 3), (complete(7), 6), (grid(2, 6), 2), (grid(3, 4), 3), (grid(3, 3), 3),
            (largest(True), 4),
        ]
        for spins, expected in known:
            with self.subTest(edges=spins.edges):
                width, order = least_width(spins)
                self.assertEqual(width, expected)
                self.assertEqual(width_of(spins, list(order)), expected)

    def test_no_order_has_a_lesser_one(self):
        for spins in samples():
            count = len(spins.fields)
            if count <= 6:
                least = min(plain_width(spins.edges, list(order)) for order in permutations(range(count)))
                self.assertEqual(least_width(spins)[0], least, spins.edges)

    def test_the_pair_that_is_returned(self):
        for spins in samples() + [largest(False)]:
            found = least_width(spins)
            self.assertIs(type(found), tuple)
            width, order = found
            self.assertTrue(is_integer(width))
            self.assertIs(type(order), tuple)
            self.assertEqual(sorted(order), list(range(len(spins.fields))))
            self.assertTrue(all(is_integer(v) for v in order))
            self.assertEqual(plain_width(spins.edges, list(order)), width)
            self.assertEqual(least_width(Spins(list(spins.fields), list(spins.edges))), found)


class Sums(unittest.TestCase):
    def test_the_example_of_the_interface(self):
        spins = Spins([0, 1], [(0, 1, 2)])
        for order in ([0, 1], [1, 0]):
            self.assertEqual(sum_by_transfer(spins, order), (((0, 0), 1), ((1, 2), 1), ((2, 1), 1), ((3, 1), 1)))

    def test_all_orders_of_small_spins(self):
        for spins in samples():
            if len(spins.fields) <= 4:
                expected = plain_sum(spins.fields, spins.edges)
                for order in permutations(range(len(spins.fields))):
                    self.assertEqual(sum_by_transfer(spins, list(order)), expected)

    def test_several_orders(self):
        for spins in samples() + [largest(True), largest(False), grid(3, 4), star(12)]:
            expected = sum_by_states(spins)
            for order in several_orders(len(spins.fields)) + [list(least_width(spins)[1])]:
                found = sum_by_transfer(spins, order)
                self.assertTrue(is_polynomial(found))
                self.assertEqual(found, expected)


class Least(unittest.TestCase):
    def test_examples(self):
        examples = [
            (Spins([0], []), (0, (0,))), (Spins([-1], []), (-1, (1,))), (Spins([1], []), (0, (0,))),
            (Spins([0, 0], [(0, 1, -1)]), (-1, (0, 1))), (Spins([0, 0], [(0, 1, 1)]), (0, (0, 0))),
            (Spins([-1, -1], [(0, 1, 5)]), (-2, (1, 1))), (Spins([-1, 1], [(0, 1, 5)]), (0, (0, 0))),
            (Spins([-1, 0], [(0, 1, -5)]), (-6, (1, 0))), (Spins([0, 0, 0], []), (0, (0, 0, 0))),
        ]
        for spins, expected in examples:
            for order in permutations(range(len(spins.fields))):
                with self.subTest(fields=spins.fields, edges=spins.edges, order=order):
                    self.assertEqual(least_by_transfer(spins, list(order)), expected)

    def test_the_least_state_among_those_of_least_cost(self):
        # Each of these has many states of least cost.
        many = [
            Spins([0] * 4, [(0, 1, -1), (0, 2, -1), (0, 3, -1), (1, 2, -1), (1, 3, -1), (2, 3, -1)]),
            Spins([0] * 5, [(0, 1, -1), (0, 4, -1), (1, 2, -1), (2, 3, -1), (3, 4, -1)]),
            Spins([-1, 1, 0, 0], [(0, 1, 1), (1, 2, -1), (2, 3, 1)]),
            Spins([0, -1, 0, -1], [(0, 2, -2), (1, 3, -1)]),
        ]
        for spins in many:
            for order in permutations(range(len(spins.fields))):
                self.assertEqual(least_by_transfer(spins, list(order)), plain_least(spins), (spins.edges, order))

    def test_several_orders(self):
        turned = Spins([0] * 12, [(u, v, -1) for u, v, _ in largest(False).edges])
        for spins in samples() + [largest(True), largest(False), turned, grid(3, 4), star(12)]:
            expected = plain_least(spins)
            for order in several_orders(len(spins.fields)) + [list(least_width(spins)[1])]:
                found = least_by_transfer(spins, order)
                self.assertEqual(found, expected)
                self.assertIs(type(found), tuple)
                self.assertIs(type(found[1]), tuple)
                self.assertTrue(is_integer(found[0]) and all(is_integer(spin) for spin in found[1]))


class WrongOrders(unittest.TestCase):
    def test_each_function_refuses_them(self):
        three = Spins([1, 0, -1], [(0, 1, 2), (1, 2, -3)])
        one = Spins([1], [])
        wrong = [
            (three, order) for order in (
                [], [0], [0, 1], [1, 2], [0, 1, 2, 3], [0, 1, 2, 2], [0, 1, 1], [0, 0, 0], [0, 1, 3], [1, 2, 3],
                [-1, 0, 1], [0, 1, -1], [0, 1, 2, -1], [2, 1, 0, 0], [0, 2], [0, 1, 2, 0, 1, 2],
            )
        ] + [(one, order) for order in ([], [1], [0, 0], [0, 1], [-1])]
        for function in (width_of, sum_by_transfer, least_by_transfer):
            for spins, order in wrong:
                with self.subTest(function=function.__name__, order=order), self.assertRaises(InvalidOrder):
                    function(spins, order)


class Lists(unittest.TestCase):
    def test_the_order_stays_as_it_was(self):
        spins = Spins([1, 0, -1, 2], [(0, 1, 2), (1, 2, -3), (1, 3, 1)])
        for function in (width_of, sum_by_transfer, least_by_transfer):
            order = [2, 0, 3, 1]
            first = function(spins, order)
            self.assertEqual(order, [2, 0, 3, 1])
            self.assertEqual(function(spins, order), first)
            wrong = [2, 0, 3, 3]
            with self.assertRaises(InvalidOrder):
                function(spins, wrong)
            self.assertEqual(wrong, [2, 0, 3, 3])
        self.assertEqual(spins.fields, (1, 0, -1, 2))
        self.assertEqual(spins.edges, ((0, 1, 2), (1, 2, -3), (1, 3, 1)))


if __name__ == "__main__":
    unittest.main()
