"""Points 2, 8, 9 and 10, and spinfield/spins.py."""

import unittest
from itertools import combinations, product

from helper import LARGEST_PAIRS, is_integer, is_polynomial, largest, plain_sum, product_of, samples
from spinfield.errors import InvalidSpins
from spinfield.polynomials import value
from spinfield.spins import Spins, all_states, cost, sum_by_states, together, ups, without_field


def path(count):
    return [(v, v + 1, 1) for v in range(count - 1)]


def dense(count, many):
    return [(u, v, 1) for u, v in combinations(range(count), 2)][:many]


class Attributes(unittest.TestCase):
    def test_they_are_tuples_of_what_was_handed_in(self):
        spins = Spins([3, -1, 0], [(0, 1, 2), (1, 2, -5)])
        self.assertEqual(spins.fields, (3, -1, 0))
        self.assertEqual(spins.edges, ((0, 1, 2), (1, 2, -5)))
        self.assertIs(type(spins.fields), tuple)
        self.assertIs(type(spins.edges), tuple)
        self.assertTrue(all(type(edge) is tuple for edge in spins.edges))

    def test_no_edges(self):
        self.assertEqual(Spins([7], []).edges, ())
        self.assertEqual(Spins([7], []).fields, (7,))

    def test_lists_stay_as_they_were(self):
        fields, edges = [3, -1, 0], [(0, 1, 2), (1, 2, -5)]
        spins = Spins(fields, edges)
        sum_by_states(spins)
        self.assertEqual((fields, edges), ([3, -1, 0], [(0, 1, 2), (1, 2, -5)]))

    def test_lists_that_are_changed_later_change_no_spins(self):
        fields, edges = [3, -1, 0], [(0, 1, 2), (1, 2, -5)]
        spins = Spins(fields, edges)
        before = sum_by_states(spins)
        fields[0] = 9
        fields.append(1)
        edges.pop()
        edges[0] = (0, 2, 8)
        self.assertEqual(spins.fields, (3, -1, 0))
        self.assertEqual(spins.edges, ((0, 1, 2), (1, 2, -5)))
        self.assertEqual(sum_by_states(spins), before)


class Refused(unittest.TestCase):
    def refuse(self, fields, edges):
        with self.subTest(fields=fields, edges=edges), self.assertRaises(InvalidSpins):
            Spins(fields, edges)

    def accept(self, fields, edges):
        with self.subTest(fields=fields, edges=edges):
            spins = Spins(fields, edges)
            self.assertEqual((spins.fields, spins.edges), (tuple(fields), tuple(edges)))

    def test_the_number_of_vertices(self):
        self.refuse([], [])
        self.accept([0], [])
        self.accept([0] * 12, path(12))
        self.refuse([0] * 13, path(13))
        self.refuse([0] * 13, [])

    def test_fields(self):
        for place in range(3):
            for field in (-9, 9, 0):
                fields = [1, 1, 1]
                fields[place] = field
                self.accept(fields, path(3))
            for field in (-10, 10, -100, 100):
                fields = [1, 1, 1]
                fields[place] = field
                self.refuse(fields, path(3))

    def test_couplings(self):
        for place in range(3):
            for j in (-9, -1, 1, 9):
                edges = path(4)
                edges[place] = edges[place][:2] + (j,)
                self.accept([0] * 4, edges)
            for j in (-10, 0, 10, -100, 100):
                edges = path(4)
                edges[place] = edges[place][:2] + (j,)
                self.refuse([0] * 4, edges)

    def test_the_number_of_edges(self):
        self.accept([0] * 12, dense(12, 24))
        self.refuse([0] * 12, dense(12, 25))
        self.accept([0] * 8, dense(8, 24))
        self.refuse([0] * 8, dense(8, 25))
        self.accept([0] * 12, [(u, v, 1) for u, v in LARGEST_PAIRS])

    def test_the_ends_ascend(self):
        self.refuse([0, 0], [(0, 0, 1)])
        self.refuse([0, 0], [(1, 1, 1)])
        self.refuse([0, 0], [(1, 0, 1)])
        self.refuse([0, 0, 0], [(0, 1, 1), (2, 1, 1)])
        self.refuse([0, 0, 0], [(0, 1, 1), (2, 2, 1)])
        self.accept([0, 0, 0], [(0, 1, 1), (1, 2, 1)])

    def test_the_ends_are_vertices(self):
        self.refuse([0, 0], [(0, 2, 1)])
        self.refuse([0, 0], [(2, 3, 1)])
        self.refuse([0, 0], [(-1, 0, 1)])
        self.refuse([0, 0], [(-1, 1, 1)])
        self.refuse([0, 0], [(-2, -1, 1)])
        self.refuse([0], [(0, 1, 1)])
        self.refuse([0] * 12, [(0, 1, 1), (11, 12, 1)])
        self.accept([0] * 12, [(0, 1, 1), (10, 11, 1)])

    def test_the_pairs_ascend_strictly(self):
        self.refuse([0] * 3, [(0, 1, 1), (0, 1, 1)])
        self.refuse([0] * 3, [(0, 1, 1), (0, 1, 2)])
        self.refuse([0] * 3, [(0, 1, 2), (0, 1, 1)])
        self.refuse([0] * 3, [(0, 2, 1), (0, 1, 1)])
        self.refuse([0] * 3, [(0, 2, 1), (0, 1, 5)])
        self.refuse([0] * 3, [(1, 2, 1), (0, 1, 1)])
        self.refuse([0] * 3, [(1, 2, 1), (0, 1, 5)])
        self.refuse([0] * 4, [(0, 1, 1), (2, 3, 1), (1, 2, 1)])
        self.refuse([0] * 4, [(0, 1, 1), (1, 2, 1), (2, 3, 1), (2, 3, 1)])
        self.accept([0] * 4, [(0, 1, 9), (0, 3, 5), (1, 2, -4), (1, 3, -9)])


class States(unittest.TestCase):
    def test_examples(self):
        self.assertEqual(all_states(Spins([5], [])), [(0,), (1,)])
        self.assertEqual(all_states(Spins([0, 1], [(0, 1, 2)])), [(0, 0), (0, 1), (1, 0), (1, 1)])

    def test_all_states_ascend(self):
        for count in (1, 2, 3, 5, 12):
            states = all_states(Spins([0] * count, []))
            self.assertIs(type(states), list)
            self.assertEqual(states, list(product((0, 1), repeat=count)))
            self.assertTrue(all(type(state) is tuple and all(is_integer(s) for s in state) for state in states))

    def test_the_list_is_a_new_one_each_time(self):
        spins = Spins([0, 0], [])
        all_states(spins).clear()
        self.assertEqual(len(all_states(spins)), 4)

    def test_cost_and_ups(self):
        spins = Spins([1, -2, 3], [(0, 1, 2), (0, 2, -3), (1, 2, 4)])
        paid = {
            (0, 0, 0): 0, (0, 0, 1): 4, (0, 1, 0): 4, (0, 1, 1): 0,
            (1, 0, 0): 0, (1, 0, 1): 10, (1, 1, 0): 0, (1, 1, 1): 2,
        }
        for state in paid:
            self.assertEqual(cost(spins, state), paid[state], state)
            self.assertEqual(ups(state), state.count(1), state)
            self.assertTrue(is_integer(cost(spins, state)) and is_integer(ups(state)))

    def test_cost_without_edges_and_without_fields(self):
        self.assertEqual(cost(Spins([-4], []), (1,)), -4)
        self.assertEqual(cost(Spins([-4], []), (0,)), 0)
        self.assertEqual(cost(Spins([0, 0], [(0, 1, -7)]), (1, 0)), -7)
        self.assertEqual(cost(Spins([0, 0], [(0, 1, -7)]), (1, 1)), 0)
        self.assertEqual(ups((0,)), 0)
        self.assertEqual(ups((1, 0, 1, 1)), 3)
        self.assertEqual(ups((1,) * 12), 12)


class PartitionPolynomials(unittest.TestCase):
    def test_the_example_of_the_interface(self):
        found = sum_by_states(Spins([0, 1], [(0, 1, 2)]))
        self.assertEqual(found, (((0, 0), 1), ((1, 2), 1), ((2, 1), 1), ((3, 1), 1)))

    def test_examples(self):
        self.assertEqual(sum_by_states(Spins([0], [])), (((0, 0), 1), ((0, 1), 1)))
        self.assertEqual(sum_by_states(Spins([-9], [])), (((-9, 1), 1), ((0, 0), 1)))
        self.assertEqual(
            sum_by_states(Spins([1, -2, 3], [(0, 1, 2), (0, 2, -3), (1, 2, 4)])),
            (((0, 0), 1), ((0, 1), 1), ((0, 2), 2), ((2, 3), 1), ((4, 1), 2), ((10, 2), 1)),
        )

    def test_samples(self):
        for spins in samples() + [largest(True), largest(False)]:
            found = sum_by_states(spins)
            self.assertTrue(is_polynomial(found))
            self.assertEqual(found, plain_sum(spins.fields, spins.edges))
            self.assertEqual(value(found, (1, 1), (1, 1)), (2 ** len(spins.fields), 1))
            self.assertEqual(sum_by_states(Spins(list(spins.fields), list(spins.edges))), found)


class WithoutField(unittest.TestCase):
    def test_samples(self):
        for spins in samples():
            fields, edges = spins.fields, spins.edges
            bare = without_field(spins)
            self.assertIsInstance(bare, Spins)
            self.assertEqual(bare.fields, (0,) * len(fields))
            self.assertEqual(bare.edges, edges)
            self.assertEqual((spins.fields, spins.edges), (fields, edges))


class Together(unittest.TestCase):
    def test_an_example(self):
        both = together(Spins([1, 2], [(0, 1, 3)]), Spins([4, 5, 6], [(0, 2, -7), (1, 2, 8)]))
        self.assertIsInstance(both, Spins)
        self.assertEqual(both.fields, (1, 2, 4, 5, 6))
        self.assertEqual(both.edges, ((0, 1, 3), (2, 4, -7), (3, 4, 8)))

    def test_its_sum_is_the_product(self):
        small = [spins for spins in samples() if len(spins.fields) <= 5]
        for first in small:
            for second in small:
                found = sum_by_states(together(first, second))
                self.assertEqual(found, product_of([sum_by_states(first), sum_by_states(second)]))

    def test_spins_stay_as_they_were(self):
        first, second = Spins([1, 2], [(0, 1, 3)]), Spins([4, 5, 6], [(0, 2, -7)])
        together(first, second)
        self.assertEqual((first.fields, first.edges), ((1, 2), ((0, 1, 3),)))
        self.assertEqual((second.fields, second.edges), ((4, 5, 6), ((0, 2, -7),)))

    def test_up_to_12_vertices(self):
        for count in (1, 5, 6, 11):
            first = Spins([1] * count, path(count))
            self.assertEqual(len(together(first, Spins([2] * (12 - count), [])).fields), 12)
            self.assertEqual(len(together(Spins([2] * (12 - count), []), first).fields), 12)
            with self.assertRaises(InvalidSpins):
                together(first, Spins([2] * (13 - count), []))
        with self.assertRaises(InvalidSpins):
            together(Spins([0] * 12, []), Spins([0] * 12, []))

    def test_up_to_24_edges(self):
        first, second = Spins([0] * 6, dense(6, 12)), Spins([0] * 6, dense(6, 13))
        self.assertEqual(len(together(first, first).edges), 24)
        with self.assertRaises(InvalidSpins):
            together(first, second)
        with self.assertRaises(InvalidSpins):
            together(second, first)


if __name__ == "__main__":
    unittest.main()
