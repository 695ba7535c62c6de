"""Point 2, and the rules for the files of the package that can be counted."""

import ast
import os
import re
import unittest

FOLDER = os.path.join(os.path.dirname(os.path.dirname(os.path.abspath(__file__))), "spinfield")

LIBRARY = {
    "heapq": {"heappush", "heappop", "heapify", "heapreplace", "heappushpop"},
    "math": {"gcd", "lcm", "isqrt", "comb", "perm", "factorial"},
    "itertools": {
        "product", "combinations", "permutations", "chain", "accumulate", "pairwise", "islice", "zip_longest",
    },
    "collections": {"defaultdict", "deque"},
}

BARRED_CALLS = {
    "open", "input", "print", "eval", "exec", "compile", "float", "complex", "round", "hash", "id", "filter",
    "globals", "locals", "vars", "dir", "chr", "slice", "bytearray", "memoryview", "__import__",
}


def files():
    return sorted(name for name in os.listdir(FOLDER) if name != "__pycache__")


def text_of(name):
    with open(os.path.join(FOLDER, name), "rb") as file:
        return file.read().decode("ascii")


def nodes():
    for name in files():
        for node in ast.walk(ast.parse(text_of(name))):
            yield name, node


class Files(unittest.TestCase):
    def test_the_package_has_plain_python_files_alone(self):
        self.assertIn("__init__.py", files())
        for name in files():
            self.assertRegex(name, r"\A[a-z0-9_]+\.py\Z")

    def test_sizes_and_characters(self):
        for name in files():
            text = text_of(name)
            lines = text.split("\n")
            self.assertLessEqual(len(lines), 400, name)
            for number, line in enumerate(lines, 1):
                self.assertLessEqual(len(line), 120, (name, number))
                self.assertTrue(re.fullmatch("[ -~]*", line), (name, number))

    def test_functions_are_small(self):
        for name, node in nodes():
            if isinstance(node, ast.FunctionDef):
                self.assertLessEqual(node.end_lineno - node.lineno + 1, 40, (name, node.name))


class NothingFromOutside(unittest.TestCase):
    def test_imports(self):
        for name, node in nodes():
            self.assertNotIsInstance(node, ast.Import, name)
            if isinstance(node, ast.ImportFrom):
                names = {alias.name for alias in node.names}
                self.assertEqual(node.level, 0, name)
                if node.module in LIBRARY:
                    self.assertLessEqual(names, LIBRARY[node.module], name)
                elif node.module != "__future__":
                    self.assertTrue(node.module.startswith("spinfield."), (name, node.module))
                    self.assertNotIn("*", names, name)

    def test_no_floating_point_numbers(self):
        for name, node in nodes():
            if isinstance(node, ast.Constant):
                self.assertNotIsInstance(node.value, (float, complex), (name, node.lineno))
            self.assertNotIsInstance(node, ast.Div, name)

    def test_no_calls_of_what_reaches_outside(self):
        for name, node in nodes():
            if isinstance(node, ast.Call) and isinstance(node.func, ast.Name):
                self.assertNotIn(node.func.id, BARRED_CALLS, (name, node.lineno))


if __name__ == "__main__":
    unittest.main()
