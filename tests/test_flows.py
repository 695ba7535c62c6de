"""Point 26, and spinfield/flows.py."""

import random
import unittest
from fractions import Fraction
from itertools import combinations, product

from helper import LARGEST_PAIRS, exact, is_fraction, is_integer, samples, timed
from spinfield.errors import NotFerro
from spinfield.flows import flow_bound, least_by_flow
from spinfield.spins import Spins, all_states, cost, sum_by_states


def plain_bound(spins, flow):
    """The bound of a flow, straight from point 26, as one of Python's own fractions, or None."""
    numbers = [Fraction(*amount) for amount in flow]
    if len(numbers) != len(spins.edges):
        return None
    leaving = [Fraction(0)] * len(spins.fields)
    for (u, v, j), number in zip(spins.edges, numbers):
        if abs(number) > j:
            return None
        leaving[u] += number
        leaving[v] -= number
    for field, number in zip(spins.fields, leaving):
        if not (0 <= number <= -field if field <= 0 else -field <= number <= 0):
            return None
    pairs = [(field, number) for field, number in zip(spins.fields, leaving) if field < 0]
    return sum((field + number for field, number in pairs), Fraction(0))


def some_spins(seed, most):
    """Spins without negative couplings, the same ones for the same seed."""
    choose = random.Random(seed).randrange
    count = 1 + choose(most)
    pairs = [pair for pair in combinations(range(count), 2) if choose(5) < 3][:24]
    return Spins([choose(19) - 9 for _ in range(count)], [(u, v, 1 + choose(9)) for u, v in pairs])


def large(seed):
    choose = random.Random(seed).randrange
    return Spins([choose(19) - 9 for _ in range(12)], [(u, v, 1 + choose(1 + seed % 9)) for u, v in LARGEST_PAIRS])


class Bounds(unittest.TestCase):
    def test_examples(self):
        pair = Spins([-3, 1], [(0, 1, 2)])
        for amount, bound in (((0, 1), (-3, 1)), ((1, 2), (-5, 2)), ((1, 1), (-2, 1))):
            self.assertEqual(flow_bound(pair, (amount,)), bound)
        self.assertEqual(flow_bound(Spins([5], []), ()), (0, 1))
        self.assertEqual(flow_bound(Spins([-5], []), ()), (-5, 1))
        self.assertEqual(flow_bound(Spins([1, -3], [(0, 1, 2)]), ((-1, 1),)), (-2, 1))
        # Along a row with a vertex without field between the two others.
        row = Spins([-3, 0, 9], [(0, 1, 2), (1, 2, 4)])
        self.assertEqual(flow_bound(row, ((3, 2), (3, 2))), (-3, 2))
        # Around a ring something may flow that leaves no vertex.
        ring = Spins([0, 0, 0], [(0, 1, 2), (0, 2, 3), (1, 2, 1)])
        self.assertEqual(flow_bound(ring, ((1, 3), (-1, 3), (1, 3))), (0, 1))

    def test_too_short_and_too_long(self):
        pair = Spins([-3, 1], [(0, 1, 2)])
        for flow in ((), ((0, 1), (0, 1)), ((1, 1), (0, 1)), ((0, 1),) * 3):
            self.assertIsNone(flow_bound(pair, flow))
        self.assertIsNone(flow_bound(Spins([0], []), ((0, 1),)))

    def test_entries_above_the_coupling(self):
        for j in (1, 2, 9):
            spins = Spins([-9, 9], [(0, 1, j)])
            self.assertEqual(flow_bound(spins, ((j, 1),)), (j - 9, 1))
            self.assertIsNone(flow_bound(spins, ((7 * j + 1, 7),)))
            self.assertIsNone(flow_bound(Spins([-9, 9, 0], [(0, 1, j)]), ((j + 1, 1),)))
            turned = Spins([9, -9], [(0, 1, j)])
            self.assertEqual(flow_bound(turned, ((-j, 1),)), (j - 9, 1))
            self.assertIsNone(flow_bound(turned, ((-7 * j - 1, 7),)))
        # Around a ring, so that nothing else is wrong.
        ring = Spins([0, 0, 0], [(0, 1, 2), (0, 2, 3), (1, 2, 2)])
        self.assertEqual(flow_bound(ring, ((2, 1), (-2, 1), (2, 1))), (0, 1))
        for amount in ((5, 2), (3, 1), (21, 10)):
            back = (-amount[0], amount[1])
            self.assertIsNone(flow_bound(ring, (amount, back, amount)))
            self.assertIsNone(flow_bound(ring, (back, amount, back)))

    def check_first(self, field, amount, allowed):
        """A vertex with the field, and one that can take or give whatever leaves it or comes to it."""
        other = 9 if amount[0] >= 0 else -9
        found = flow_bound(Spins([field, other], [(0, 1, 9)]), (amount,))
        backward = flow_bound(Spins([other, field], [(0, 1, 9)]), ((-amount[0], amount[1]),))
        with self.subTest(field=field, amount=amount):
            self.assertEqual(found, backward)
            self.assertEqual(found is not None, allowed)

    def test_what_leaves_a_vertex(self):
        for field in range(-8, 9):
            for amount in [(n, 1) for n in range(-9, 10)] + [(n, 2) for n in range(-17, 18, 2)]:
                number = Fraction(*amount)
                allowed = 0 <= number <= -field if field <= 0 else -field <= number <= 0
                self.check_first(field, amount, allowed)

    def test_straight_from_the_document(self):
        bounds = []
        for seed in range(60):
            spins = some_spins(seed, 4)
            numbers = [Fraction(n, 2) for n in (-4, -3, -1, 0, 1, 2, 5)]
            for flow in list(product(numbers, repeat=min(3, len(spins.edges))))[::3]:
                flow = tuple(exact(n) for n in flow) + ((0, 1),) * (len(spins.edges) - len(flow))
                found, expected = flow_bound(spins, flow), plain_bound(spins, flow)
                self.assertEqual(found, expected if expected is None else exact(expected))
                bounds.append(found)
        told = [bound for bound in bounds if bound is not None]
        self.assertTrue(all(is_fraction(bound) for bound in told))
        self.assertGreater(len(told), 100)
        self.assertGreater(bounds.count(None), 100)

    def test_no_state_costs_less(self):
        for seed in range(60):
            spins = some_spins(seed, 4)
            least = min(cost(spins, state) for state in all_states(spins))
            for number in (Fraction(1, 2), Fraction(1), Fraction(2)):
                for signs in product((-1, 0, 1), repeat=min(4, len(spins.edges))):
                    flow = tuple(exact(sign * number) for sign in signs)
                    flow += ((0, 1),) * (len(spins.edges) - len(flow))
                    bound = flow_bound(spins, flow)
                    if bound is not None:
                        self.assertLessEqual(Fraction(*bound), least)


class Least(unittest.TestCase):
    def check(self, spins):
        result = least_by_flow(spins)
        self.assertIs(type(result), tuple)
        least, state, flow = result
        self.assertTrue(is_integer(least))
        self.assertEqual(len(state), len(spins.fields))
        self.assertTrue(type(state) is tuple and all(is_integer(spin) and spin in (0, 1) for spin in state))
        self.assertTrue(type(flow) is tuple and all(is_fraction(amount) for amount in flow))
        self.assertEqual(cost(spins, state), least)
        self.assertEqual(flow_bound(spins, flow), (least, 1))
        self.assertEqual(plain_bound(spins, flow), least)
        return least

    def test_of_the_interface(self):
        self.assertEqual(least_by_flow(Spins([-3, 1], [(0, 1, 2)])), (-2, (1, 1), ((1, 1),)))

    def test_examples(self):
        examples = [
            (Spins([5], []), 0), (Spins([-5], []), -5), (Spins([0], []), 0), (Spins([-9] * 12, []), -108),
            (Spins([-3, 9], [(0, 1, 2)]), -1), (Spins([-3, 9], [(0, 1, 9)]), 0), (Spins([9, -3], [(0, 1, 1)]), -2),
            (Spins([-3, 0, 9], [(0, 1, 2), (1, 2, 1)]), -2),
            (Spins([-1, -1, -1, 2], [(0, 3, 1), (1, 3, 1), (2, 3, 1)]), -1),
            (Spins([-9, 0, 0, 9], [(0, 1, 3), (0, 2, 4), (1, 2, 2), (1, 3, 5), (2, 3, 1)]), -3),
        ]
        for spins, least in examples:
            with self.subTest(fields=spins.fields, edges=spins.edges):
                self.assertEqual(self.check(spins), least)

    def test_against_all_states_of_small_spins(self):
        fields = []
        for seed in range(300):
            spins = some_spins(seed, 8)
            fields += spins.fields
            self.assertEqual(self.check(spins), min(cost(spins, state) for state in all_states(spins)))
        self.assertEqual((min(fields), max(fields)), (-9, 9))

    def test_the_largest_spins_and_the_time_that_they_need(self):
        for seed in range(12):
            spins = large(seed)
            self.assertEqual((len(spins.fields), len(spins.edges)), (12, 24))
            _, needed = timed(least_by_flow, spins)
            self.assertEqual(self.check(spins), min(a for (a, _), _ in sum_by_states(spins)))
            self.assertLess(needed, 5)

    def test_a_flow_that_has_to_be_turned_back(self):
        # The short way across first would block both long ones.
        edges = [(0, 1, 1), (0, 2, 1), (1, 2, 1), (1, 3, 1), (2, 3, 1)]
        for order in ([0, 1, 2, 3], [3, 1, 2, 0], [0, 2, 1, 3]):
            fields = [0] * 4
            fields[order[0]], fields[order[3]] = -9, 9
            self.assertEqual(self.check(Spins(fields, edges)), -7)

    def test_results_come_again_and_nothing_is_changed(self):
        for seed in range(20):
            spins = some_spins(seed, 8)
            before = (spins.fields, spins.edges)
            self.assertEqual(least_by_flow(spins), least_by_flow(Spins(list(spins.fields), list(spins.edges))))
            self.assertEqual((spins.fields, spins.edges), before)


class Refused(unittest.TestCase):
    def test_just_if_a_coupling_is_negative(self):
        refused = 0
        for spins in samples() + [some_spins(seed, 6) for seed in range(20)]:
            flow = ((0, 1),) * len(spins.edges)
            if any(j < 0 for _, _, j in spins.edges):
                refused += 1
                for wrong in (flow, (), flow + ((0, 1),)):
                    with self.assertRaises(NotFerro):
                        flow_bound(spins, wrong)
                with self.assertRaises(NotFerro):
                    least_by_flow(spins)
            else:
                self.assertIsNotNone(flow_bound(spins, flow))
                self.assertEqual(len(least_by_flow(spins)), 3)
        self.assertGreater(refused, 4)

    def test_one_negative_coupling_at_each_place(self):
        pairs = [(0, 1), (0, 2), (1, 2), (1, 3)]
        for place in range(4):
            for j in (-1, -9):
                spins = Spins([1, -1, 0, 2], [pair + (j if k == place else 3,) for k, pair in enumerate(pairs)])
                with self.assertRaises(NotFerro):
                    least_by_flow(spins)
                with self.assertRaises(NotFerro):
                    flow_bound(spins, ((0, 1),) * 4)


if __name__ == "__main__":
    unittest.main()
