"""Point 4: the error classes."""

import unittest

from spinfield import errors

NAMES = [
    "InvalidSpins", "InvalidOrder", "HasField", "NotFerro", "InvalidPlane", "InvalidWeight",
    "InvalidBox", "TooLarge", "PolynomialSyntaxError", "CaseSyntaxError",
]


class ErrorClasses(unittest.TestCase):
    def test_the_base_class_is_a_value_error(self):
        self.assertEqual(errors.FieldError.__bases__, (ValueError,))

    def test_each_other_class_stands_directly_below_it(self):
        for name in NAMES:
            with self.subTest(name):
                self.assertEqual(getattr(errors, name).__bases__, (errors.FieldError,))

    def test_no_two_names_mean_the_same_class(self):
        classes = [getattr(errors, name) for name in NAMES]
        self.assertEqual(len(set(classes)), len(NAMES))

    def test_they_are_caught_as_field_errors_and_as_value_errors(self):
        for name in NAMES:
            for base in (errors.FieldError, ValueError):
                with self.subTest(name), self.assertRaises(base):
                    raise getattr(errors, name)("text")


if __name__ == "__main__":
    unittest.main()
