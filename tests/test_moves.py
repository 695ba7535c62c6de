"""Points 38 and 39, and spinfield/moves.py."""

import unittest
from fractions import Fraction
from itertools import product

from helper import (
    all_sets, clusters_of, dense, exact, is_fraction, is_table, plain_weights, small_ferro, small_samples, square_of,
    timed,
)
from spinfield.distributions import distribution_of, followed, is_balanced, keeps
from spinfield.errors import HasField, InvalidWeight, NotFerro, TooLarge
from spinfield.moves import cluster_move, heat_bath, joint_sums, single_turn, trial
from spinfield.spins import Spins, all_states, cost, ups

POINTS = [((1, 1), (1, 1)), ((1, 2), (1, 1)), ((1, 2), (3, 1)), ((7, 3), (2, 5)), ((1, 1000), (1000, 1))]
SMALL_X = [(1, 1), (1, 2), (9, 10), (1, 1000)]
SMALL_Y = [(1, 1), (5, 2), (1, 1000)]


def all_plain_states(count):
    return list(product((0, 1), repeat=count))


def with_spin(state, vertex, spin):
    return state[:vertex] + (spin,) + state[vertex + 1:]


def square_by(count, leads):
    """The chances of a move, row by row; leads tells for a state a list of pairs (state, chance)."""
    states = all_plain_states(count)
    square = [[Fraction(0)] * len(states) for _ in states]
    for index, state in enumerate(states):
        for other, chance in leads(state):
            square[index][states.index(other)] += chance
    return square


def plain_heat_bath(spins, vertex, x, y):
    """Straight from point 38."""
    weights = dict(zip(all_plain_states(len(spins.fields)), plain_weights(spins.fields, spins.edges, x, y)))

    def leads(state):
        up, down = with_spin(state, vertex, 1), with_spin(state, vertex, 0)
        a, b = weights[up], weights[down]
        return [(up, a / (a + b)), (down, b / (a + b))]

    return square_by(len(spins.fields), leads)


def plain_trial(spins, vertex, x, y):
    """Straight from point 38."""
    weights = dict(zip(all_plain_states(len(spins.fields)), plain_weights(spins.fields, spins.edges, x, y)))

    def leads(state):
        turned = with_spin(state, vertex, 1 - state[vertex])
        chance = min(Fraction(1), weights[turned] / weights[state])
        return [(turned, chance), (state, 1 - chance)]

    return square_by(len(spins.fields), leads)


def kept_sets(spins, state, x):
    """Pairs of the clusters of the kept edges and the chance of these edges, for each set that may be kept."""
    alike = [(u, v, j) for u, v, j in spins.edges if state[u] == state[v]]
    found = []
    for kept in all_sets(alike):
        chance = Fraction(1)
        for e, (_, _, j) in enumerate(alike):
            chance *= 1 - Fraction(*x) ** j if e in kept else Fraction(*x) ** j
        found.append((clusters_of(len(spins.fields), [alike[e][:2] for e in kept]), chance))
    return found


def plain_cluster_move(spins, x, y):
    """Straight from point 38."""

    def leads(state):
        ways = []
        for clusters, chance in kept_sets(spins, state, x):
            shares = []
            for cluster in clusters:
                w = Fraction(*x) ** sum(spins.fields[v] for v in cluster) * Fraction(*y) ** len(cluster)
                shares.append(w / (1 + w))
            for chosen in product((0, 1), repeat=len(clusters)):
                target, part = state, chance
                for cluster, up, share in zip(clusters, chosen, shares):
                    part *= share if up else 1 - share
                    for v in cluster:
                        target = with_spin(target, v, up)
                ways.append((target, part))
        return ways

    return square_by(len(spins.fields), leads)


def plain_single_turn(spins, x):
    """Straight from point 38."""
    count = len(spins.fields)

    def leads(state):
        ways = []
        for clusters, chance in kept_sets(spins, state, x):
            for drawn in range(count):
                target = state
                for v in next(cluster for cluster in clusters if drawn in cluster):
                    target = with_spin(target, v, 1 - state[v])
                ways.append((target, chance / count))
        return ways

    return square_by(count, leads)


def plain_joint_weight(spins, state, chosen, x, y):
    """Straight from point 39."""
    weight = Fraction(1)
    for e, (u, v, j) in enumerate(spins.edges):
        if e in chosen and state[u] != state[v]:
            return Fraction(0)
        weight *= 1 - Fraction(*x) ** j if e in chosen else Fraction(*x) ** j
    for field, spin in zip(spins.fields, state):
        if spin:
            weight *= Fraction(*x) ** field * Fraction(*y)
    return weight


class Checks(unittest.TestCase):
    def check(self, spins, x, y, table, square=None):
        """That it is a table, balanced for the distribution, keeps it, and has just these chances."""
        self.assertTrue(is_table(table, 2 ** len(spins.fields)))
        if square is not None:
            self.assertEqual(square_of(table), square)
        distribution = distribution_of(spins, x, y)
        self.assertIs(is_balanced(distribution, table), True)
        self.assertIs(keeps(distribution, table), True)


class OneVertex(Checks):
    def test_of_the_interface(self):
        self.assertEqual(
            heat_bath(Spins([1], []), 0, (1, 2), (1, 1)), (((0, (2, 3)), (1, (1, 3))), ((0, (2, 3)), (1, (1, 3)))),
        )

    def test_worked_out_by_hand(self):
        self.assertEqual(trial(Spins([1], []), 0, (1, 2), (1, 1)), (
            ((0, (1, 2)), (1, (1, 2))), ((0, (1, 1)),),
        ))
        # No state has more than another one: the vertex is surely turned.
        self.assertEqual(trial(Spins([0], []), 0, (1, 2), (1, 1)), (((1, (1, 1)),), ((0, (1, 1)),)))
        self.assertEqual(trial(Spins([1], []), 0, (1, 2), (2, 1)), (((1, (1, 1)),), ((0, (1, 1)),)))
        joined = Spins([0, 0], [(0, 1, 1)])
        self.assertEqual(heat_bath(joined, 0, (1, 2), (1, 1)), (
            ((0, (2, 3)), (2, (1, 3))), ((1, (1, 3)), (3, (2, 3))),
            ((0, (2, 3)), (2, (1, 3))), ((1, (1, 3)), (3, (2, 3))),
        ))
        self.assertEqual(trial(joined, 1, (1, 2), (1, 1)), (
            ((0, (1, 2)), (1, (1, 2))), ((0, (1, 1)),), ((3, (1, 1)),), ((2, (1, 2)), (3, (1, 2))),
        ))

    def test_straight_from_the_document(self):
        for spins in small_samples():
            for x, y in POINTS:
                for vertex in range(len(spins.fields)):
                    bath = heat_bath(spins, vertex, x, y)
                    self.check(spins, x, y, bath, plain_heat_bath(spins, vertex, x, y))
                    tried = trial(spins, vertex, x, y)
                    self.check(spins, x, y, tried, plain_trial(spins, vertex, x, y))

    def test_couplings_and_fields_at_their_bounds(self):
        for field, j in product((-9, 9), repeat=2):
            spins = Spins([field, -field, 9], [(0, 1, j), (0, 2, -j), (1, 2, j)])
            for x, y in POINTS:
                for vertex in range(3):
                    self.check(spins, x, y, heat_bath(spins, vertex, x, y), plain_heat_bath(spins, vertex, x, y))
                    self.check(spins, x, y, trial(spins, vertex, x, y), plain_trial(spins, vertex, x, y))

    def test_all_vertices_one_after_the_other_keep_the_distribution(self):
        for spins in small_samples():
            for move in (heat_bath, trial):
                table = move(spins, 0, (1, 2), (3, 1))
                for vertex in range(1, min(4, len(spins.fields))):
                    table = followed(table, move(spins, vertex, (1, 2), (3, 1)))
                self.assertTrue(is_table(table, 2 ** len(spins.fields)))
                self.assertIs(keeps(distribution_of(spins, (1, 2), (3, 1)), table), True)


class Clusters(Checks):
    def test_worked_out_by_hand(self):
        self.assertEqual(cluster_move(Spins([1], []), (1, 2), (1, 1)), (
            ((0, (2, 3)), (1, (1, 3))), ((0, (2, 3)), (1, (1, 3))),
        ))
        joined = Spins([0, 0], [(0, 1, 1)])
        # Alike, they are joined with 1/2; the states then are 0 or 3, otherwise any.
        alike = ((0, (3, 8)), (1, (1, 8)), (2, (1, 8)), (3, (3, 8)))
        apart = tuple((index, (1, 4)) for index in range(4))
        self.assertEqual(cluster_move(joined, (1, 2), (1, 1)), (alike, apart, apart, alike))
        # The joined cluster becomes up with 4/5, each vertex alone with 2/3.
        self.assertEqual(cluster_move(joined, (1, 2), (2, 1))[0], (
            (0, (7, 45)), (1, (1, 9)), (2, (1, 9)), (3, (28, 45)),
        ))

    def test_turns_worked_out_by_hand(self):
        self.assertEqual(single_turn(Spins([0], []), (1, 2)), (((1, (1, 1)),), ((0, (1, 1)),)))
        joined = Spins([0, 0], [(0, 1, 1)])
        self.assertEqual(single_turn(joined, (1, 2)), (
            ((1, (1, 4)), (2, (1, 4)), (3, (1, 2))), ((0, (1, 2)), (3, (1, 2))),
            ((0, (1, 2)), (3, (1, 2))), ((0, (1, 2)), (1, (1, 4)), (2, (1, 4))),
        ))
        # Nothing is joined at 1.
        self.assertEqual(single_turn(joined, (1, 1))[0], ((1, (1, 2)), (2, (1, 2))))

    def test_straight_from_the_document(self):
        for spins in small_ferro(True):
            if len(spins.edges) <= 6:
                for x, y in product(SMALL_X[:3], SMALL_Y[:2]):
                    self.check(spins, x, y, cluster_move(spins, x, y), plain_cluster_move(spins, x, y))

    def test_turns_straight_from_the_document(self):
        for spins in small_ferro(False):
            if len(spins.edges) <= 6:
                for x in SMALL_X[:3]:
                    self.check(spins, x, (1, 1), single_turn(spins, x), plain_single_turn(spins, x))

    def test_balanced_for_all_samples(self):
        for spins in small_ferro(True):
            for x, y in product(SMALL_X, SMALL_Y):
                self.check(spins, x, y, cluster_move(spins, x, y))
        for spins in small_ferro(False):
            for x in SMALL_X:
                self.check(spins, x, (1, 1), single_turn(spins, x))

    def test_couplings_and_fields_at_their_bounds(self):
        for field in (-9, 0, 9):
            spins = Spins([field, -field, 0, field], [(0, 1, 9), (0, 2, 9), (1, 2, 1), (2, 3, 9)])
            for x, y in product(((1, 1), (1, 3)), ((1, 1), (2, 7))):
                self.check(spins, x, y, cluster_move(spins, x, y), plain_cluster_move(spins, x, y))
        bare = Spins([0] * 4, [(0, 1, 9), (0, 2, 9), (1, 2, 1), (2, 3, 9)])
        for x in ((1, 1), (1, 3)):
            self.check(bare, x, (1, 1), single_turn(bare, x), plain_single_turn(bare, x))

    def test_the_largest_ones_with_the_time_that_they_need(self):
        spins = dense(6, 10, 9, 9)
        for x, y in (((1, 2), (3, 1)), ((1, 1), (1, 1)), ((998, 999), (123, 998))):
            table, needed = timed(cluster_move, spins, x, y)
            self.assertLess(needed, 5)
            self.check(spins, x, y, table)
        bare = dense(6, 10, 9, 0)
        for x in ((1, 2), (1, 1), (998, 999)):
            table, needed = timed(single_turn, bare, x)
            self.assertLess(needed, 5)
            self.check(bare, x, (1, 1), table)


class Joint(unittest.TestCase):
    def test_worked_out_by_hand(self):
        joined = Spins([0, 1], [(0, 1, 1)])
        # By states; and with the edge left out, where it gives 1/2, and taken, where it gives 1/2 to equal ends.
        self.assertEqual(joint_sums(joined, (1, 2), (3, 1)), (
            ((1, 1), (3, 4), (3, 2), (9, 2)), ((5, 1), (11, 4)),
        ))
        self.assertEqual(joint_sums(Spins([2], []), (1, 2), (3, 1)), (((1, 1), (3, 4)), ((7, 4),)))

    def test_straight_from_the_document(self):
        for spins in small_samples():
            if len(spins.edges) > 8:
                continue
            sets = [
                [e for e in range(len(spins.edges)) if mask >> e & 1] for mask in range(1 << len(spins.edges))
            ]
            for x, y in POINTS[1:4]:
                found = joint_sums(spins, x, y)
                self.assertTrue(type(found) is tuple and len(found) == 2)
                for numbers in found:
                    self.assertTrue(type(numbers) is tuple and all(map(is_fraction, numbers)))
                states = all_plain_states(len(spins.fields))
                rows = [[plain_joint_weight(spins, state, chosen, x, y) for chosen in sets] for state in states]
                self.assertEqual(found[0], tuple(exact(sum(row)) for row in rows))
                self.assertEqual(found[1], tuple(exact(sum(column)) for column in zip(*rows)))

    def test_the_sums_by_states_and_by_clusters(self):
        for spins in small_samples():
            if len(spins.edges) > 8:
                continue
            for x, y in POINTS:
                by_states, by_sets = joint_sums(spins, x, y)
                self.assertEqual(by_states, tuple(
                    exact(Fraction(*x) ** cost(spins, state) * Fraction(*y) ** ups(state))
                    for state in all_states(spins)
                ))
                # What point 13 has for each set.
                for mask, total in enumerate(by_sets):
                    expected = Fraction(1)
                    for e, (_, _, j) in enumerate(spins.edges):
                        expected *= 1 - Fraction(*x) ** j if mask >> e & 1 else Fraction(*x) ** j
                    joined = [edge[:2] for e, edge in enumerate(spins.edges) if mask >> e & 1]
                    for cluster in clusters_of(len(spins.fields), joined):
                        fields = sum(spins.fields[v] for v in cluster)
                        expected *= 1 + Fraction(*x) ** fields * Fraction(*y) ** len(cluster)
                    self.assertEqual(total, exact(expected))

    def test_the_largest_ones_with_the_time_that_they_need(self):
        for x, y in (((1, 2), (3, 1)), ((9998, 9999), (123, 9998))):
            (by_states, by_sets), needed = timed(joint_sums, dense(6, 8, 9, 9), x, y)
            self.assertLess(needed, 5)
            self.assertEqual((len(by_states), len(by_sets)), (64, 256))
            self.assertEqual(sum(Fraction(*n) for n in by_states), sum(Fraction(*n) for n in by_sets))


def grid_of_arguments():
    """Spins and numbers with faults of all kinds, alone and together."""
    numbers = [(-1, 2), (0, 1), (1, 2), (1, 1), (3, 2)]
    shapes = [(6, 8), (6, 9), (6, 10), (6, 11), (7, 8), (7, 9), (7, 10), (7, 11), (1, 0), (12, 24)]
    for (count, many), negative, field in product(shapes, (False, True), (0, -1)):
        spins = dense(count, many, 3, 0)
        edges = list(spins.edges)
        if negative and edges:
            edges[-1] = edges[-1][:2] + (-1,)
        spins = Spins([0] * (count - 1) + [field], edges)
        for x, y in product(numbers, ((-2, 1), (0, 1), (1, 1), (7, 2))):
            yield spins, x, y


def first_fault(spins, x, y):
    """The error that all functions have in common, or None."""
    if x[0] <= 0 or y[0] <= 0:
        return InvalidWeight
    return TooLarge if len(spins.fields) > 6 else None


def cluster_fault(spins, x, y):
    fault = first_fault(spins, x, y)
    if fault is None and any(j < 0 for _, _, j in spins.edges):
        fault = NotFerro
    if fault is None and Fraction(*x) > 1:
        fault = InvalidWeight
    if fault is None and len(spins.edges) > 10:
        fault = TooLarge
    return fault


class Refused(unittest.TestCase):
    def check(self, fault, function, *arguments):
        if fault is None:
            function(*arguments)
        else:
            with self.assertRaises(fault) as caught:
                function(*arguments)
            self.assertIs(type(caught.exception), fault)

    def test_errors_in_their_order(self):
        faults = []
        for spins, x, y in grid_of_arguments():
            with self.subTest(spins=(spins.fields, spins.edges), x=x, y=y):
                fault = first_fault(spins, x, y)
                self.check(fault, heat_bath, spins, 0, x, y)
                self.check(fault, trial, spins, len(spins.fields) - 1, x, y)
                if fault is None and len(spins.edges) > 8:
                    fault = TooLarge
                # Large ones that are not refused are tested elsewhere.
                if fault is not None or len(spins.edges) < 8:
                    self.check(fault, joint_sums, spins, x, y)
                fault = cluster_fault(spins, x, y)
                if fault is not None or len(spins.edges) < 8:
                    self.check(fault, cluster_move, spins, x, y)
                faults.append(fault)
                if y == (1, 1):
                    if fault is None and any(spins.fields):
                        fault = HasField
                    if fault is not None or len(spins.edges) < 8:
                        self.check(fault, single_turn, spins, x)
        self.assertEqual(set(faults), {None, InvalidWeight, TooLarge, NotFerro})

    def test_at_the_bounds_nothing_is_refused(self):
        self.assertEqual(len(cluster_move(dense(6, 10, 1, 1), (1, 1), (1, 9))), 64)
        self.assertEqual(len(single_turn(dense(6, 10, 1, 0), (1, 1))), 64)
        self.assertEqual(len(heat_bath(dense(6, 15, 9, 9), 5, (1, 9), (9, 1))), 64)
        self.assertEqual(len(trial(dense(6, 15, 9, 9), 5, (1, 9), (9, 1))), 64)
        # Negative couplings, numbers above 1 and fields have joint weights, too.
        turned = Spins([9] * 6, [(u, v, -j) for u, v, j in dense(6, 8, 9, 0).edges])
        self.assertEqual([len(sums) for sums in joint_sums(turned, (3, 2), (9, 1))], [64, 256])


if __name__ == "__main__":
    unittest.main()
