"""Points 36 and 37, and spinfield/distributions.py."""

import random
import unittest
from fractions import Fraction
from itertools import product

from helper import dense, exact, is_fraction, is_table, plain_weights, small_samples, square_of, timed
from spinfield.distributions import after, distribution_of, followed, is_balanced, keeps
from spinfield.errors import InvalidWeight, TooLarge
from spinfield.moves import cluster_move
from spinfield.spins import Spins, all_states, cost, ups

POINTS = [((1, 1), (1, 1)), ((1, 2), (1, 1)), ((1, 2), (3, 1)), ((7, 3), (2, 5)), ((1, 9999), (9999, 1))]

EVEN = ((1, 4),) * 4
SLOPE = ((1, 10), (2, 10), (3, 10), (4, 10))


def lowest(entries):
    return tuple(exact(Fraction(*entry)) for entry in entries)


def table_of(square):
    """The table with the chances of a square."""
    return tuple(
        tuple((index, exact(chance)) for index, chance in enumerate(row) if chance) for row in square
    )


def some_table(states, seed):
    """A table with some chances of 0, the same one for the same seed."""
    choose = random.Random(seed).randrange
    square = []
    for index in range(states):
        row = [choose(6) if choose(3) else 0 for _ in range(states)]
        row[choose(states)] += 1
        square.append([Fraction(entry, sum(row)) for entry in row])
    return table_of(square)


def some_distribution(states, seed):
    choose = random.Random(seed).randrange
    row = [choose(6) for _ in range(states)]
    row[choose(states)] += 1
    return tuple(exact(Fraction(entry, sum(row))) for entry in row)


ROUND = table_of([[0, 1, 0, 0], [0, 0, 1, 0], [0, 0, 0, 1], [1, 0, 0, 0]])
STAY = table_of([[1, 0, 0, 0], [0, 1, 0, 0], [0, 0, 1, 0], [0, 0, 0, 1]])
SWAP = table_of([[0, 1, 0, 0], [1, 0, 0, 0], [0, 0, 0, 1], [0, 0, 1, 0]])
# The second state has twice as much as the first one, and the fourth 4/3 of the third.
SLOPED = table_of([
    [0, 1, 0, 0], [Fraction(1, 2), Fraction(1, 2), 0, 0], [0, 0, 0, 1], [0, 0, Fraction(3, 4), Fraction(1, 4)],
])


class Distributions(unittest.TestCase):
    def test_worked_out_by_hand(self):
        self.assertEqual(distribution_of(Spins([1], []), (1, 2), (1, 1)), ((2, 3), (1, 3)))
        self.assertEqual(distribution_of(Spins([1], []), (1, 2), (2, 1)), ((1, 2), (1, 2)))
        # Down, up for the second one, up for the first one, both up.
        joined = Spins([0, 1], [(0, 1, 1)])
        self.assertEqual(distribution_of(joined, (1, 2), (1, 1)), ((4, 9), (1, 9), (2, 9), (2, 9)))
        self.assertEqual(distribution_of(joined, (1, 2), (2, 1)), lowest(((4, 18), (2, 18), (4, 18), (8, 18))))

    def test_straight_from_the_document(self):
        for spins in small_samples():
            for x, y in POINTS:
                found = distribution_of(spins, x, y)
                weights = [
                    Fraction(*x) ** cost(spins, state) * Fraction(*y) ** ups(state) for state in all_states(spins)
                ]
                self.assertEqual(weights, plain_weights(spins.fields, spins.edges, x, y))
                self.assertTrue(type(found) is tuple and all(map(is_fraction, found)))
                self.assertEqual(found, tuple(exact(weight / sum(weights)) for weight in weights))
                self.assertEqual(sum(Fraction(*entry) for entry in found), 1)
                self.assertTrue(all(entry[0] > 0 for entry in found))

    def test_refused(self):
        numbers = [(-9, 1), (-1, 7), (0, 1), (1, 7), (9, 1)]
        for count in (1, 6, 7, 12):
            spins = Spins([1] * count, [])
            for x, y in product(numbers, repeat=2):
                with self.subTest(count=count, x=x, y=y):
                    if x[0] <= 0 or y[0] <= 0:
                        with self.assertRaises(InvalidWeight):
                            distribution_of(spins, x, y)
                    elif count > 6:
                        with self.assertRaises(TooLarge):
                            distribution_of(spins, x, y)
                    else:
                        self.assertEqual(len(distribution_of(spins, x, y)), 2 ** count)

    def test_fifteen_edges(self):
        spins = dense(6, 15, 9, 9)
        found, needed = timed(distribution_of, spins, (9998, 9999), (123, 9998))
        self.assertEqual(len(found), 64)
        self.assertLess(needed, 3)


class Moves(unittest.TestCase):
    def check(self, distribution, table, kept, balanced):
        self.assertIs(keeps(distribution, table), kept)
        self.assertIs(is_balanced(distribution, table), balanced)

    def test_written_by_hand(self):
        slope = lowest(SLOPE)
        # Going round keeps the even distribution, though no move comes back.
        self.check(EVEN, ROUND, True, False)
        self.check(slope, ROUND, False, False)
        self.check(EVEN, SWAP, True, True)
        self.check(slope, SWAP, False, False)
        self.check(slope, STAY, True, True)
        self.check(slope, SLOPED, True, True)
        self.check(EVEN, SLOPED, False, False)
        one = ((1, 1),)
        self.check(one, (((0, (1, 1)),),), True, True)

    def test_entries_of_0(self):
        self.check(((0, 1), (1, 1)), table_of([[0, 1], [0, 1]]), True, True)
        self.check(((0, 1), (1, 1)), table_of([[0, 1], [1, 0]]), False, False)
        self.check(((0, 1), (0, 1), (1, 2), (1, 2)), SWAP, True, True)
        self.check(((0, 1), (0, 1), (0, 1), (1, 1)), SWAP, False, False)

    def test_what_is_behind_a_move(self):
        self.assertEqual(after(lowest(SLOPE), ROUND), lowest(((4, 10), (1, 10), (2, 10), (3, 10))))
        self.assertEqual(after(EVEN, SLOPED), ((1, 8), (3, 8), (3, 16), (5, 16)))
        self.assertEqual(after(((1, 1), (0, 1)), table_of([[0, 1], [0, 1]])), ((0, 1), (1, 1)))

    def test_straight_from_the_document(self):
        outcomes = set()
        for states, seed in product((1, 2, 4, 8), range(20)):
            table, distribution = some_table(states, seed), some_distribution(states, seed + 3)
            self.assertTrue(is_table(table, states))
            square, entries = square_of(table), [Fraction(*entry) for entry in distribution]
            behind = [sum(entries[i] * square[i][k] for i in range(states)) for k in range(states)]
            found = after(distribution, table)
            self.assertTrue(type(found) is tuple and all(map(is_fraction, found)))
            self.assertEqual(found, tuple(map(exact, behind)))
            self.check(distribution, table, behind == entries, all(
                entries[i] * square[i][k] == entries[k] * square[k][i]
                for i in range(states) for k in range(states)
            ))
            outcomes.add((keeps(distribution, table), is_balanced(distribution, table)))
        self.assertIn((False, False), outcomes)

    def test_a_balanced_table_keeps_the_distribution(self):
        for states, seed in product((2, 4, 8), range(20)):
            choose = random.Random(seed).randrange
            # From flows that are the same both ways.
            flows = [[Fraction(0)] * states for _ in range(states)]
            for i in range(states):
                for k in range(i + 1):
                    flows[i][k] = flows[k][i] = Fraction(choose(5) + (i == k))
            whole = sum(map(sum, flows))
            distribution = tuple(exact(sum(row) / whole) for row in flows)
            table = table_of([[entry / sum(row) for entry in row] for row in flows])
            self.check(distribution, table, True, True)

    def test_one_after_the_other(self):
        for states, seed in product((1, 2, 4, 8), range(20)):
            first, second = some_table(states, seed), some_table(states, seed + 50)
            distribution = some_distribution(states, seed)
            both = followed(first, second)
            self.assertTrue(is_table(both, states))
            self.assertEqual(after(distribution, both), after(after(distribution, first), second))
            a, b = square_of(first), square_of(second)
            expected = [[sum(a[i][m] * b[m][k] for m in range(states)) for k in range(states)] for i in range(states)]
            self.assertEqual(square_of(both), expected)

    def test_one_after_the_other_by_hand(self):
        self.assertEqual(followed(ROUND, ROUND), table_of([[0, 0, 1, 0], [0, 0, 0, 1], [1, 0, 0, 0], [0, 1, 0, 0]]))
        self.assertEqual(followed(SWAP, SWAP), STAY)
        self.assertEqual(followed(STAY, SLOPED), SLOPED)
        self.assertEqual(followed(SLOPED, STAY), SLOPED)
        # Two balanced tables, one after the other, keep the distribution, but need not be balanced.
        third = table_of([[1, 0, 0], [0, 0, 1], [0, 1, 0]])
        first = table_of([[0, 1, 0], [1, 0, 0], [0, 0, 1]])
        both = followed(first, third)
        self.assertEqual(both, table_of([[0, 0, 1], [1, 0, 0], [0, 1, 0]]))
        self.check(((1, 3),) * 3, both, True, False)

    def test_nothing_is_changed_and_results_come_again(self):
        distribution, table = lowest(SLOPE), SLOPED
        first = (after(distribution, table), followed(table, ROUND))
        self.assertEqual((distribution, table), (lowest(SLOPE), SLOPED))
        self.assertEqual((after(distribution, table), followed(table, ROUND)), first)

    def test_large_tables_with_the_time_that_they_need(self):
        x, y = (9, 10), (7, 5)
        spins = dense(6, 10, 9, 9)
        table = cluster_move(spins, x, y)
        distribution = distribution_of(spins, x, y)
        for function, arguments in (
            (after, (distribution, table)), (keeps, (distribution, table)), (is_balanced, (distribution, table)),
            (followed, (table, table)),
        ):
            _, needed = timed(function, *arguments)
            self.assertLess(needed, 5)
        self.assertTrue(is_table(followed(table, table), 64))


if __name__ == "__main__":
    unittest.main()
