"""The interface: each name in its module, with its arguments."""

import importlib
import inspect
import unittest

FUNCTIONS = {
    "fractions": {
        "fraction": ["numerator", "denominator"],
        "add": ["a", "b"],
        "subtract": ["a", "b"],
        "multiply": ["a", "b"],
        "divide": ["a", "b"],
        "compare": ["a", "b"],
        "raised": ["a", "exponent"],
    },
    "polynomials": {
        "polynomial": ["terms"],
        "plus": ["p", "q"],
        "minus": ["p", "q"],
        "times": ["p", "q"],
        "power": ["p", "exponent"],
        "shared": ["p", "divisor"],
        "value": ["p", "x", "y"],
        "row_at": ["p", "x"],
        "format_polynomial": ["p"],
        "parse_polynomial": ["text"],
    },
    "spins": {
        "all_states": ["spins"],
        "cost": ["spins", "state"],
        "ups": ["state"],
        "without_field": ["spins"],
        "together": ["first", "second"],
        "sum_by_states": ["spins"],
    },
    "transfer": {
        "width_of": ["spins", "order"],
        "least_width": ["spins"],
        "sum_by_transfer": ["spins", "order"],
        "least_by_transfer": ["spins", "order"],
    },
    "clusters": {
        "sum_by_clusters": ["spins"],
        "cluster_polynomial": ["spins"],
        "colour_sum": ["spins", "colours"],
    },
    "loops": {
        "even_sets": ["spins"],
        "sum_by_loops": ["spins"],
    },
    "planes": {
        "faces": ["plane"],
        "dual": ["plane"],
        "with_leaf": ["plane", "vertex", "place"],
        "with_edge": ["plane", "first", "place", "second", "other"],
    },
    "duals": {
        "plane_sum": ["plane", "couplings"],
        "cut_sum": ["plane", "couplings"],
        "even_sum": ["plane", "couplings"],
        "sum_by_dual": ["plane", "couplings"],
    },
    "matchings": {
        "matching_sum": ["count", "edges"],
        "matching_polynomial": ["count", "edges"],
    },
    "pfaffians": {
        "pfaffian": ["rows"],
        "good_orientation": ["plane"],
        "is_good_orientation": ["plane", "orientation"],
        "dimer_sum": ["plane", "weights"],
    },
    "decorations": {
        "even_value": ["plane", "pairs"],
        "plane_value": ["plane", "couplings", "x"],
        "sum_by_dimers": ["plane", "couplings"],
    },
    "flows": {
        "flow_bound": ["spins", "flow"],
        "least_by_flow": ["spins"],
    },
    "circuits": {
        "packing_bound": ["plane", "couplings", "packing"],
        "least_by_circuits": ["plane", "couplings"],
    },
    "roots": {
        "real_count": ["row", "low", "high"],
        "real_intervals": ["row", "width"],
    },
    "boxes": {
        "box_count": ["row", "box"],
        "root_boxes": ["row", "width"],
        "circle_count": ["row"],
        "all_on_circle": ["row"],
    },
    "correlations": {
        "pair_sum": ["spins", "u", "v"],
        "pair_by_transfer": ["spins", "order", "u", "v"],
        "correlation": ["spins", "u", "v", "x", "y"],
        "ups_mean": ["spins", "x", "y"],
        "ups_spread": ["spins", "x", "y"],
    },
    "series": {
        "series_product": ["first", "second"],
        "exponential": ["series"],
        "logarithm": ["series"],
        "cumulants": ["spins", "count"],
    },
    "distributions": {
        "distribution_of": ["spins", "x", "y"],
        "after": ["distribution", "table"],
        "keeps": ["distribution", "table"],
        "is_balanced": ["distribution", "table"],
        "followed": ["first", "second"],
    },
    "moves": {
        "heat_bath": ["spins", "vertex", "x", "y"],
        "trial": ["spins", "vertex", "x", "y"],
        "cluster_move": ["spins", "x", "y"],
        "single_turn": ["spins", "x"],
        "joint_sums": ["spins", "x", "y"],
    },
    "cases": {
        "format_spins": ["spins"],
        "parse_spins": ["text"],
        "answer_case": ["text"],
    },
}

CLASSES = {
    "errors": [
        "FieldError", "InvalidSpins", "InvalidOrder", "HasField", "NotFerro", "InvalidPlane", "InvalidWeight",
        "InvalidBox", "TooLarge", "PolynomialSyntaxError", "CaseSyntaxError",
    ],
    "spins": ["Spins"],
    "planes": ["Plane"],
}


class Interface(unittest.TestCase):
    def test_each_function_has_its_arguments(self):
        for file, functions in FUNCTIONS.items():
            module = importlib.import_module("spinfield." + file)
            for name, arguments in functions.items():
                with self.subTest(file=file, name=name):
                    self.assertEqual(list(inspect.signature(getattr(module, name)).parameters), arguments)

    def test_each_function_is_defined_in_its_file(self):
        for file, functions in FUNCTIONS.items():
            module = importlib.import_module("spinfield." + file)
            for name in functions:
                with self.subTest(file=file, name=name):
                    self.assertTrue(inspect.isfunction(getattr(module, name)))
                    self.assertEqual(getattr(module, name).__module__, "spinfield." + file)

    def test_each_class_is_defined_in_its_file(self):
        for file, names in CLASSES.items():
            module = importlib.import_module("spinfield." + file)
            for name in names:
                with self.subTest(file=file, name=name):
                    self.assertTrue(inspect.isclass(getattr(module, name)))
                    self.assertEqual(getattr(module, name).__module__, "spinfield." + file)

    def test_spins_are_made_from_fields_and_edges(self):
        spins = importlib.import_module("spinfield.spins")
        self.assertEqual(list(inspect.signature(spins.Spins).parameters), ["fields", "edges"])

    def test_plane_graphs_are_made_from_count_edges_and_turns(self):
        planes = importlib.import_module("spinfield.planes")
        self.assertEqual(list(inspect.signature(planes.Plane).parameters), ["count", "edges", "turns"])


if __name__ == "__main__":
    unittest.main()
