"""Points 1 to 4 over the whole program: what holds for each function of the interface."""

import doctest
import importlib
import os
import subprocess
import sys
import unittest

from helper import drawn_grid, drawn_ring, drawn_wheel, side_by_side
from spinfield.errors import FieldError
from spinfield.planes import Plane
from spinfield.spins import Spins
from test_interface import FUNCTIONS

ROOT = os.path.dirname(os.path.dirname(os.path.abspath(__file__)))

ONE, HALF, ZERO, BELOW = (1, 1), (1, 2), (0, 1), (-1, 2)


def spins():
    return Spins([1, 0, -2, 3], [(0, 1, 2), (0, 2, -1), (1, 3, 4), (2, 3, -3)])


def ferro():
    return Spins([1, 0, -2, 3], [(0, 1, 2), (0, 2, 1), (1, 3, 4), (2, 3, 3)])


def bare():
    return Spins([0] * 4, [(0, 1, 2), (0, 2, 1), (1, 3, 4), (2, 3, 3)])


def plane():
    return Plane(*drawn_grid(2, 3))


def table():
    return (((0, HALF), (1, HALF)), ((0, (1, 3)), (1, (2, 3))))


P = (((-1, 2), 3), ((0, 0), -4), ((2, 1), 6))
Q = (((0, 1), 1), ((3, 0), -2))
ROW = (-2, 3, 0, 1, -4, 2)
CASE = "spins 0 1\nedge 0 1 2\nsum\nclusters\nleast\nwidth\npair 0 1\nvalue 1/2 -3/1\ncircle 1/2\ncorrelation 0 1 1/2 3/1\n"


def calls():
    """Calls of all functions, each as a triple (file, function, arguments), with new arguments each time."""
    couplings = [2, -1, 3, -2, 1, -4, 1]
    return [
        ("fractions", "fraction", (6, -4)), ("fractions", "add", (HALF, (-1, 3))),
        ("fractions", "subtract", (HALF, (-1, 3))), ("fractions", "multiply", (HALF, (-1, 3))),
        ("fractions", "divide", (HALF, (-1, 3))), ("fractions", "compare", (HALF, (1, 3))),
        ("fractions", "raised", ((-2, 3), -5)),
        ("polynomials", "polynomial", ([((1, 0), 2), ((0, 1), 1), ((1, 0), -2)],)), ("polynomials", "plus", (P, Q)),
        ("polynomials", "minus", (P, Q)), ("polynomials", "times", (P, Q)), ("polynomials", "power", (P, 3)),
        ("polynomials", "shared", (P, 1)), ("polynomials", "value", (P, HALF, (-3, 5))),
        ("polynomials", "row_at", (P, HALF)), ("polynomials", "format_polynomial", (P,)),
        ("polynomials", "parse_polynomial", ("-2*y^3 + x",)),
        ("spins", "all_states", (spins(),)), ("spins", "cost", (spins(), (1, 0, 1, 1))), ("spins", "ups", ((1, 0, 1),)),
        ("spins", "without_field", (spins(),)), ("spins", "together", (spins(), ferro())),
        ("spins", "sum_by_states", (spins(),)),
        ("transfer", "width_of", (spins(), [2, 0, 3, 1])), ("transfer", "least_width", (spins(),)),
        ("transfer", "sum_by_transfer", (spins(), [2, 0, 3, 1])),
        ("transfer", "least_by_transfer", (spins(), [2, 0, 3, 1])),
        ("clusters", "sum_by_clusters", (spins(),)), ("clusters", "cluster_polynomial", (spins(),)),
        ("clusters", "colour_sum", (bare(), 3)),
        ("loops", "even_sets", (bare(),)), ("loops", "sum_by_loops", (bare(),)),
        ("planes", "faces", (plane(),)), ("planes", "dual", (plane(),)), ("planes", "with_leaf", (plane(), 1, 2)),
        ("planes", "with_edge", (plane(), 0, 1, 0, 1)),
        ("duals", "plane_sum", (plane(), couplings)), ("duals", "cut_sum", (plane(), couplings)),
        ("duals", "even_sum", (plane(), couplings)), ("duals", "sum_by_dual", (plane(), couplings)),
        ("matchings", "matching_sum", (4, [(0, 1, HALF), (1, 2, ONE), (3, 2, (2, 1)), (0, 3, (-1, 3))])),
        ("matchings", "matching_polynomial", (4, [(0, 1, HALF), (1, 2, ONE), (3, 2, (2, 1)), (0, 3, (-1, 3))])),
        ("pfaffians", "pfaffian", ([[ZERO, (2, 1)], [(-2, 1), ZERO]],)), ("pfaffians", "good_orientation", (plane(),)),
        ("pfaffians", "is_good_orientation", (plane(), (0, 1, 0, 1, 0, 0, 1))),
        ("pfaffians", "dimer_sum", (plane(), [ONE, HALF, (2, 3), ONE, (-1, 4), ONE, (5, 1)])),
        ("decorations", "even_value", (plane(), [(HALF, ONE)] * 7)),
        ("decorations", "plane_value", (plane(), couplings, (-2, 3))),
        ("decorations", "sum_by_dimers", (plane(), couplings)),
        ("flows", "flow_bound", (ferro(), (ZERO, (1, 2), ZERO, (-1, 2)))), ("flows", "least_by_flow", (ferro(),)),
        ("circuits", "packing_bound", (plane(), couplings, [((0, 2, 4, 5), HALF)])),
        ("circuits", "least_by_circuits", (plane(), couplings)),
        ("roots", "real_count", (ROW, (-3, 1), (3, 1))), ("roots", "real_intervals", (ROW, (1, 7))),
        ("boxes", "box_count", (ROW, ((-3, 1), (1, 2), (-1, 1), (2, 1)))), ("boxes", "root_boxes", (ROW, (1, 7))),
        ("boxes", "circle_count", ((2, 5, 4, 5, 2),)), ("boxes", "all_on_circle", ((1, 0, 1),)),
        ("correlations", "pair_sum", (spins(), 0, 3)),
        ("correlations", "pair_by_transfer", (spins(), [2, 0, 3, 1], 0, 3)),
        ("correlations", "correlation", (spins(), 0, 3, HALF, (3, 1))),
        ("correlations", "ups_mean", (spins(), HALF, (3, 1))), ("correlations", "ups_spread", (spins(), HALF, (3, 1))),
        ("series", "series_product", ((ONE, HALF, ZERO), (HALF, BELOW, ONE))),
        ("series", "exponential", ((ZERO, HALF, (-2, 3), ONE),)), ("series", "logarithm", ((ONE, HALF, (-2, 3), ONE),)),
        ("series", "cumulants", (spins(), 5)),
        ("distributions", "distribution_of", (spins(), HALF, (3, 1))),
        ("distributions", "after", (((1, 4), (3, 4)), table())), ("distributions", "keeps", (((2, 5), (3, 5)), table())),
        ("distributions", "is_balanced", (((2, 5), (3, 5)), table())),
        ("distributions", "followed", (table(), table())),
        ("moves", "heat_bath", (spins(), 2, HALF, (3, 1))), ("moves", "trial", (spins(), 2, HALF, (3, 1))),
        ("moves", "cluster_move", (ferro(), HALF, (3, 1))), ("moves", "single_turn", (bare(), HALF)),
        ("moves", "joint_sums", (spins(), HALF, (3, 1))),
        ("cases", "format_spins", (spins(),)), ("cases", "parse_spins", ("spins 0 1\nedge 0 1 2\n",)),
        ("cases", "answer_case", (CASE,)),
    ]


def wrong_calls():
    """Calls that are refused, and the name of the error, for each function that refuses something."""
    couplings = [1] * 7
    thirteen = Plane(13, [(v, v + 1) for v in range(12)], [(0,)] + [(2 * v - 1, 2 * v) for v in range(1, 12)] + [(23,)])
    many = Plane(*side_by_side(9))
    seven, large = Spins([0] * 7, []), Spins([0] * 9, [(u, v, 1) for u in range(4) for v in range(4, 9)])
    twelve = Spins([0] * 12, [(u, v, 1) for u in range(7) for v in range(u + 1, 7)])
    return [
        ("polynomials", "parse_polynomial", ("2*x + ",), "PolynomialSyntaxError"),
        ("spins", "Spins", ([], []), "InvalidSpins"), ("spins", "Spins", ([0, 0], [(1, 0, 1)]), "InvalidSpins"),
        ("spins", "together", (large, spins()), "InvalidSpins"),
        ("transfer", "width_of", (spins(), [0, 1, 2]), "InvalidOrder"),
        ("transfer", "sum_by_transfer", (spins(), [0, 1, 2, 2]), "InvalidOrder"),
        ("transfer", "least_by_transfer", (spins(), [1, 2, 3, 4]), "InvalidOrder"),
        ("clusters", "colour_sum", (spins(), 2), "HasField"), ("loops", "sum_by_loops", (spins(),), "HasField"),
        ("loops", "even_sets", (twelve,), "TooLarge"),
        ("planes", "Plane", (2, [], [(), ()]), "InvalidPlane"), ("planes", "Plane", (0, [], []), "InvalidPlane"),
        ("planes", "dual", (Plane(*side_by_side(101)),), "InvalidPlane"),
        ("planes", "with_leaf", (plane(), 6, 0), "InvalidPlane"),
        ("planes", "with_edge", (plane(), 0, 0, 5, 9), "InvalidPlane"),
        ("duals", "plane_sum", (plane(), couplings[1:]), "InvalidWeight"),
        ("duals", "cut_sum", (plane(), [10] * 7), "InvalidWeight"),
        ("duals", "even_sum", (thirteen, [1] * 12), "TooLarge"),
        ("duals", "sum_by_dual", (Plane(*side_by_side(13)), [1] * 13), "TooLarge"),
        ("matchings", "matching_sum", (2, [(0, 2, ONE)]), "InvalidWeight"),
        ("matchings", "matching_polynomial", (17, []), "TooLarge"),
        ("pfaffians", "pfaffian", ([[ONE]],), "InvalidWeight"),
        ("pfaffians", "pfaffian", ([[ZERO] * 121] * 121,), "TooLarge"),
        ("pfaffians", "dimer_sum", (plane(), [ONE]), "InvalidWeight"),
        ("decorations", "even_value", (plane(), []), "InvalidWeight"),
        ("decorations", "plane_value", (thirteen, [1] * 12, HALF), "TooLarge"),
        ("decorations", "sum_by_dimers", (plane(), [9] * 7), "TooLarge"),
        ("flows", "flow_bound", (spins(), ()), "NotFerro"), ("flows", "least_by_flow", (spins(),), "NotFerro"),
        ("circuits", "packing_bound", (many, [1] * 9, []), "TooLarge"),
        ("circuits", "least_by_circuits", (many, [1] * 8), "InvalidWeight"),
        ("roots", "real_count", (ROW, ONE, ONE), "InvalidBox"), ("roots", "real_intervals", (ROW, ZERO), "InvalidBox"),
        ("boxes", "box_count", (ROW, (ZERO, ONE, ONE, ZERO)), "InvalidBox"),
        ("boxes", "root_boxes", (ROW, BELOW), "InvalidBox"),
        ("correlations", "pair_by_transfer", (spins(), [0], 0, 1), "InvalidOrder"),
        ("correlations", "correlation", (spins(), 0, 1, ZERO, ONE), "InvalidWeight"),
        ("correlations", "ups_mean", (spins(), ONE, BELOW), "InvalidWeight"),
        ("correlations", "ups_spread", (spins(), BELOW, ONE), "InvalidWeight"),
        ("distributions", "distribution_of", (seven, ONE, ONE), "TooLarge"),
        ("moves", "heat_bath", (seven, 0, ONE, ZERO), "InvalidWeight"), ("moves", "trial", (seven, 0, ONE, ONE), "TooLarge"),
        ("moves", "cluster_move", (spins(), ONE, ONE), "NotFerro"), ("moves", "single_turn", (ferro(), ONE), "HasField"),
        ("moves", "joint_sums", (seven, ONE, ONE), "TooLarge"),
        ("cases", "parse_spins", ("",), "CaseSyntaxError"), ("cases", "answer_case", ("spins 0\nsums\n",), "CaseSyntaxError"),
    ]


def function_of(file, name):
    return getattr(importlib.import_module("spinfield." + file), name)


def shown(thing):
    """A text that tells all kinds and values in a result or in arguments."""
    if type(thing) in (list, tuple):
        inside = ", ".join(map(shown, thing))
        return f"{type(thing).__name__}({inside})"
    if isinstance(thing, (Spins, Plane)):
        return f"{type(thing).__name__}({shown(sorted(vars(thing).items()))})"
    return f"{type(thing).__name__}:{thing!r}"


def is_plain(thing):
    """True for numbers, texts, True, False, None, objects of the program, and tuples of plain things."""
    if type(thing) is tuple:
        return all(map(is_plain, thing))
    return thing is None or type(thing) in (int, str, bool, Spins, Plane)


def results(order):
    """What all calls return, in the order of the calls, made in an order."""
    made = calls()
    found = {}
    for index in order(range(len(made))):
        file, name, arguments = made[index]
        found[index] = f"{file}.{name} {shown(function_of(file, name)(*arguments))}"
    return [found[index] for index in range(len(made))]


class EachFunction(unittest.TestCase):
    def test_all_of_them_are_called_here(self):
        names = {(file, name) for file, functions in FUNCTIONS.items() for name in functions}
        self.assertEqual({call[:2] for call in calls()}, names)
        self.assertLessEqual({call[:2] for call in wrong_calls()}, names | {("spins", "Spins"), ("planes", "Plane")})

    def test_plain_kinds_alone_are_returned(self):
        for file, name, arguments in calls():
            found = function_of(file, name)(*arguments)
            # A list stands outside alone, with tuples in it.
            for part in found if type(found) is list else [found]:
                self.assertTrue(is_plain(part), (name, found))

    def test_the_order_of_calls_means_nothing(self):
        first = results(list)
        self.assertEqual(results(list), first)
        self.assertEqual(results(reversed), first)
        self.assertEqual(results(lambda indexes: sorted(indexes, key=lambda index: index * 37 % 101)), first)

    def test_other_runs_of_python_come_to_the_same(self):
        first = results(list)
        for seed in ("0", "1", "4242"):
            code = "import test_whole_program as t; print(chr(10).join(t.results(reversed)))"
            paths = os.pathsep.join([ROOT, os.path.join(ROOT, "tests")])
            run = subprocess.run(
                [sys.executable, "-c", code], capture_output=True, text=True, check=True,
                env={**os.environ, "PYTHONHASHSEED": seed, "PYTHONPATH": paths},
            )
            self.assertEqual(run.stdout.splitlines(), first)

    def test_arguments_stay_as_they_were(self):
        for file, name, arguments in calls():
            before = shown(arguments)
            function_of(file, name)(*arguments)
            self.assertEqual(shown(arguments), before, name)
        for file, name, arguments, _ in wrong_calls():
            before = shown(arguments)
            with self.assertRaises(FieldError):
                function_of(file, name)(*arguments)
            self.assertEqual(shown(arguments), before, name)

    def test_a_list_is_a_new_list_each_time(self):
        lists = 0
        for file, name, arguments in calls():
            first = function_of(file, name)(*arguments)
            if type(first) is list:
                lists += 1
                before = shown(first)
                second = function_of(file, name)(*arguments)
                self.assertIsNot(first, second)
                first.append(first[0])
                del first[0]
                self.assertEqual(shown(second), before, name)
                self.assertEqual(shown(function_of(file, name)(*arguments)), before, name)
        self.assertEqual(lists, 5)

    def test_nothing_but_the_named_errors_is_raised(self):
        for file, name, arguments, error in wrong_calls():
            with self.subTest(function=name), self.assertRaises(FieldError) as caught:
                function_of(file, name)(*arguments)
            kind = type(caught.exception)
            self.assertEqual((kind.__name__, kind.__module__, kind.__bases__), (error, "spinfield.errors", (FieldError,)))


class Objects(unittest.TestCase):
    def test_attributes_hold_tuples(self):
        for thing in (spins(), ferro(), plane(), Plane(*drawn_ring(4)), Plane(*drawn_wheel(5))):
            for name, held in vars(thing).items():
                self.assertFalse("list(" in shown(held), name)

    def test_they_copy_what_they_are_made_from(self):
        count, edges, turns = drawn_wheel(4)
        edges, turns = [list(edge) for edge in edges], [list(turn) for turn in turns]
        made = Plane(count, edges, turns)
        before = shown(made)
        edges[0][0], turns[0][0] = 7, 7
        edges.pop()
        turns.append([])
        self.assertEqual(shown(made), before)


class Readme(unittest.TestCase):
    def test_its_examples(self):
        found = doctest.testfile(os.path.join(ROOT, "README.md"), module_relative=False)
        self.assertEqual(found.failed, 0)
        self.assertGreater(found.attempted, 10)


if __name__ == "__main__":
    unittest.main()
