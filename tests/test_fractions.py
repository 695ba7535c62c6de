"""Point 3 and spinfield/fractions.py: fractions in lowest terms."""

import unittest
from fractions import Fraction

from helper import is_fraction, is_integer
from spinfield.fractions import add, compare, divide, fraction, multiply, raised, subtract

NUMERATORS = [-12, -7, -2, -1, 0, 1, 2, 3, 9, 10]
DENOMINATORS = [-9, -4, -1, 1, 2, 3, 6, 10]
BIG = 10 ** 60


def all_fractions():
    found = {(f.numerator, f.denominator) for n in NUMERATORS for d in DENOMINATORS for f in [Fraction(n, d)]}
    return sorted(found) + [(BIG + 1, 7 ** 50), (-BIG, 7), (1, BIG)]


def as_pair(exact):
    return (exact.numerator, exact.denominator)


class MakingFractions(unittest.TestCase):
    def test_examples(self):
        examples = [
            ((6, 4), (3, 2)), ((-6, 4), (-3, 2)), ((6, -4), (-3, 2)), ((-6, -4), (3, 2)),
            ((3, 2), (3, 2)), ((4, 2), (2, 1)), ((2, 4), (1, 2)), ((5, 1), (5, 1)), ((5, -1), (-5, 1)),
            ((7, 7), (1, 1)), ((7, -7), (-1, 1)), ((0, 1), (0, 1)), ((0, 5), (0, 1)), ((0, -5), (0, 1)),
            ((BIG * 6, -BIG * 4), (-3, 2)), ((2 ** 200, 2 ** 199), (2, 1)), ((1, BIG), (1, BIG)),
        ]
        for (numerator, denominator), expected in examples:
            with self.subTest(numerator=numerator, denominator=denominator):
                self.assertEqual(fraction(numerator, denominator), expected)

    def test_all_small_ones_are_in_lowest_terms(self):
        for n in range(-12, 13):
            for d in list(range(-12, 0)) + list(range(1, 13)):
                result = fraction(n, d)
                self.assertTrue(is_fraction(result), (n, d, result))
                self.assertEqual(result, as_pair(Fraction(n, d)))


class Reckoning(unittest.TestCase):
    def check(self, function, plain, pairs):
        for a, b in pairs:
            result = function(a, b)
            self.assertTrue(is_fraction(result), (a, b, result))
            self.assertEqual(result, as_pair(plain(Fraction(*a), Fraction(*b))), (a, b))

    def setUp(self):
        self.pairs = [(a, b) for a in all_fractions() for b in all_fractions()]

    def test_examples(self):
        self.assertEqual(add((1, 2), (1, 2)), (1, 1))
        self.assertEqual(add((1, 6), (-1, 6)), (0, 1))
        self.assertEqual(subtract((1, 2), (1, 3)), (1, 6))
        self.assertEqual(multiply((2, 3), (-3, 4)), (-1, 2))
        self.assertEqual(multiply((0, 1), (-3, 4)), (0, 1))
        self.assertEqual(divide((1, 2), (-3, 4)), (-2, 3))
        self.assertEqual(divide((0, 1), (-3, 4)), (0, 1))

    def test_add(self):
        self.check(add, lambda a, b: a + b, self.pairs)

    def test_subtract(self):
        self.check(subtract, lambda a, b: a - b, self.pairs)

    def test_multiply(self):
        self.check(multiply, lambda a, b: a * b, self.pairs)

    def test_divide(self):
        self.check(divide, lambda a, b: a / b, [(a, b) for a, b in self.pairs if b != (0, 1)])

    def test_compare(self):
        self.assertEqual(compare((1, 3), (1, 2)), -1)
        self.assertEqual(compare((-1, 3), (-1, 2)), 1)
        self.assertEqual(compare((2, 3), (2, 3)), 0)
        # As tuples, or by their numerators alone, these stand the other way round.
        self.assertEqual(compare((3, 10), (1, 2)), -1)
        for a, b in self.pairs:
            result = compare(a, b)
            exact_a, exact_b = Fraction(*a), Fraction(*b)
            self.assertTrue(is_integer(result))
            self.assertEqual(result, (exact_a > exact_b) - (exact_a < exact_b), (a, b))

    def test_compare_tells_large_fractions_apart_that_differ_by_little(self):
        self.assertEqual(compare((BIG, BIG + 1), (BIG + 1, BIG + 2)), -1)
        self.assertEqual(compare((BIG + 1, BIG + 2), (BIG, BIG + 1)), 1)


class Raising(unittest.TestCase):
    def test_examples(self):
        examples = [
            (((2, 3), 0), (1, 1)), (((2, 3), 1), (2, 3)), (((2, 3), 3), (8, 27)), (((2, 3), -1), (3, 2)),
            (((2, 3), -2), (9, 4)), (((-2, 3), 2), (4, 9)), (((-2, 3), 3), (-8, 27)), (((-2, 3), -1), (-3, 2)),
            (((-2, 3), -3), (-27, 8)), (((-2, 3), -2), (9, 4)), (((0, 1), 0), (1, 1)), (((0, 1), 5), (0, 1)),
            (((1, 1), -40), (1, 1)), (((-1, 1), 41), (-1, 1)), (((1, 2), 200), (1, 2 ** 200)),
            (((1, 2), -200), (2 ** 200, 1)), (((-5, 1), 0), (1, 1)),
        ]
        for (a, exponent), expected in examples:
            with self.subTest(a=a, exponent=exponent):
                self.assertEqual(raised(a, exponent), expected)

    def test_against_products(self):
        for a in all_fractions():
            for exponent in range(-9, 10):
                if a == (0, 1) and exponent < 0:
                    continue
                result = raised(a, exponent)
                self.assertTrue(is_fraction(result), (a, exponent, result))
                self.assertEqual(result, as_pair(Fraction(*a) ** exponent))


if __name__ == "__main__":
    unittest.main()
