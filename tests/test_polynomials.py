"""Points 2, 5 and 7, and spinfield/polynomials.py but for texts."""

import unittest
from fractions import Fraction
from itertools import permutations
from math import gcd

from helper import gathered, is_fraction, is_integer, is_polynomial, plain_value, product_of
from spinfield.polynomials import minus, plus, polynomial, power, row_at, shared, times, value

ONE = (((0, 0), 1),)
X = (((1, 0), 1),)
Y = (((0, 1), 1),)

POLYNOMIALS = [
    (),
    ONE,
    (((0, 0), -1),),
    X,
    Y,
    (((-2, 3), -4),),
    (((0, 0), 1), ((1, 0), -1)),
    (((0, 1), -2), ((1, 0), 1)),
    (((-3, 0), 6), ((0, -2), -9), ((0, 0), 3), ((2, 2), 12)),
    (((-1, -1), 1), ((-1, 0), 2), ((0, -1), -3), ((5, 7), 10 ** 40)),
    (((-1, 2), 5), ((0, 2), -10), ((1, 2), 5)),
]

NUMBERS = [(1, 1), (-1, 1), (2, 1), (1, 2), (-3, 2), (5, 7)]


class Gathering(unittest.TestCase):
    def test_examples(self):
        examples = [
            ([], ()),
            ([((0, 0), 0)], ()),
            ([((0, 0), 5)], (((0, 0), 5),)),
            ([((1, 0), 1), ((0, 1), -2)], (((0, 1), -2), ((1, 0), 1))),
            ([((2, 1), 3), ((2, 1), -3)], ()),
            ([((2, 1), 3), ((0, 0), 1), ((2, 1), 4)], (((0, 0), 1), ((2, 1), 7))),
            ([((1, 1), 0), ((0, 0), 1), ((-1, 1), 0)], (((0, 0), 1),)),
            ([((0, -1), 1), ((-1, 5), 2), ((-1, -5), 3), ((0, 0), 4)],
             (((-1, -5), 3), ((-1, 5), 2), ((0, -1), 1), ((0, 0), 4))),
            ([((3, 3), 1), ((3, 3), 1), ((3, 3), -2), ((3, 3), 0)], ()),
            ([((10, 0), 1), ((9, 0), 1), ((-10, 0), 1)], (((-10, 0), 1), ((9, 0), 1), ((10, 0), 1))),
        ]
        for terms, expected in examples:
            with self.subTest(terms=terms):
                self.assertEqual(polynomial(terms), expected)
                self.assertTrue(is_polynomial(polynomial(terms)))

    def test_the_order_of_the_terms_does_not_matter(self):
        terms = [((1, -2), 3), ((-1, 2), 4), ((1, -2), -1), ((0, 0), 0), ((-1, 1), 5)]
        for mixed in permutations(terms):
            self.assertEqual(polynomial(list(mixed)), (((-1, 1), 5), ((-1, 2), 4), ((1, -2), 2)))

    def test_the_list_stays_as_it_was(self):
        terms = [((1, 0), 1), ((0, 1), -2), ((1, 0), 2)]
        polynomial(terms)
        self.assertEqual(terms, [((1, 0), 1), ((0, 1), -2), ((1, 0), 2)])

    def test_a_polynomial_is_gathered_from_its_own_terms(self):
        for p in POLYNOMIALS:
            self.assertEqual(polynomial(list(p)), p)


class Reckoning(unittest.TestCase):
    def test_examples(self):
        p = (((0, 1), -2), ((1, 0), 1))
        self.assertEqual(times(p, p), (((0, 2), 4), ((1, 1), -4), ((2, 0), 1)))
        self.assertEqual(plus(p, p), (((0, 1), -4), ((1, 0), 2)))
        self.assertEqual(minus(p, p), ())
        self.assertEqual(minus(X, Y), (((0, 1), -1), ((1, 0), 1)))
        self.assertEqual(minus((), X), (((1, 0), -1),))
        self.assertEqual(times((((-1, 0), 1),), X), ONE)
        self.assertEqual(times(plus(X, ONE), minus(X, ONE)), (((0, 0), -1), ((2, 0), 1)))

    def test_plus_minus_and_times(self):
        for p in POLYNOMIALS:
            for q in POLYNOMIALS:
                total, difference, product = plus(p, q), minus(p, q), times(p, q)
                for result in (total, difference, product):
                    self.assertTrue(is_polynomial(result), (p, q, result))
                self.assertEqual(total, gathered(p + q))
                self.assertEqual(difference, gathered(p + tuple((pair, -c) for pair, c in q)))
                self.assertEqual(product, product_of([p, q]))

    def test_power(self):
        for p in POLYNOMIALS:
            for exponent in range(6):
                with self.subTest(p=p, exponent=exponent):
                    self.assertEqual(power(p, exponent), product_of([p] * exponent))

    def test_power_at_the_edges(self):
        self.assertEqual(power((), 0), ONE)
        self.assertEqual(power((), 3), ())
        self.assertEqual(power(X, 0), ONE)
        self.assertEqual(power(X, 1), X)
        self.assertEqual(power((((-2, 1), -1),), 101), (((-202, 101), -1),))
        self.assertEqual(power(plus(ONE, X), 8)[4], ((4, 0), 70))


class Sharing(unittest.TestCase):
    def test_examples(self):
        p = (((-3, 0), 6), ((0, -2), -9), ((2, 2), 12))
        self.assertEqual(shared(p, 1), p)
        self.assertEqual(shared(p, 3), (((-3, 0), 2), ((0, -2), -3), ((2, 2), 4)))
        self.assertEqual(shared(p, -3), (((-3, 0), -2), ((0, -2), 3), ((2, 2), -4)))
        self.assertEqual(shared(p, -1), (((-3, 0), -6), ((0, -2), 9), ((2, 2), -12)))
        self.assertEqual(shared((((1, 1), -10 ** 40),), 10 ** 40), (((1, 1), -1),))
        self.assertEqual(shared((), 7), ())
        self.assertEqual(shared((), -7), ())

    def test_none_where_one_coefficient_is_not_divisible(self):
        p = (((-3, 0), 6), ((0, -2), -9), ((2, 2), 12))
        for divisor in (2, -2, 4, 6, 9, -9, 18, 100, -100):
            with self.subTest(divisor=divisor):
                self.assertIsNone(shared(p, divisor))
        self.assertIsNone(shared((((0, 0), 1), ((1, 0), 2)), 2))
        self.assertIsNone(shared((((0, 0), 2), ((1, 0), 1)), 2))

    def test_it_undoes_a_product(self):
        for p in POLYNOMIALS:
            for divisor in (-12, -1, 1, 5):
                self.assertEqual(shared(times(p, (((0, 0), divisor),)), divisor), p)


class Values(unittest.TestCase):
    def test_examples(self):
        p = (((-1, 2), 3), ((0, 0), -1), ((1, -1), 2))
        self.assertEqual(value(p, (1, 2), (2, 3)), (19, 6))
        self.assertEqual(value(p, (-1, 1), (1, 1)), (-6, 1))
        self.assertEqual(value((), (1, 2), (2, 3)), (0, 1))
        self.assertEqual(value(ONE, (1, 2), (-2, 3)), (1, 1))
        self.assertEqual(value(minus(X, Y), (2, 3), (2, 3)), (0, 1))
        self.assertEqual(value(X, (2, 3), (5, 7)), (2, 3))
        self.assertEqual(value(Y, (2, 3), (5, 7)), (5, 7))

    def test_against_pythons_own_fractions(self):
        for p in POLYNOMIALS:
            for x in NUMBERS:
                for y in NUMBERS:
                    result = value(p, x, y)
                    self.assertTrue(is_fraction(result))
                    self.assertEqual(Fraction(*result), plain_value(p, x, y))


class Rows(unittest.TestCase):
    def test_examples(self):
        one_plus_y = (((0, 0), 1), ((0, 1), 1))
        examples = [
            ((one_plus_y, (1, 1)), (1, 1)),
            ((one_plus_y, (3, 7)), (1, 1)),
            (((), (1, 2)), ()),
            ((ONE, (1, 2)), (1,)),
            (((((0, 0), -5),), (1, 2)), (-1,)),
            ((X, (5, 7)), (1,)),
            (((((2, 3), -4),), (5, 7)), (-1,)),
            # x becomes 1/2: 1 + (1/2) y + (1/4) y^2.
            (((((0, 0), 1), ((1, 1), 1), ((2, 2), 1)), (1, 2)), (4, 2, 1)),
            # Nothing but the positive common factor 2 is taken out.
            (((((0, 0), -2), ((0, 1), 4)), (1, 1)), (-1, 2)),
            (((((0, 0), 6), ((0, 2), -9)), (1, 1)), (2, 0, -3)),
            # Negative exponents of y, and a gap in the middle.
            (((((0, -3), 1), ((0, 1), -1)), (1, 1)), (1, 0, 0, 0, -1)),
            (((((0, 2), 1), ((0, 5), 1)), (1, 1)), (1, 0, 0, 1)),
            # Negative exponents of x: x^-2 at 2/3 is 9/4.
            (((((-2, 0), 1), ((0, 1), 1)), (2, 3)), (9, 4)),
            # x - 2 is 0 at 2: the first, the last, or a middle entry goes.
            (((((0, 0), -2), ((0, 1), 1), ((1, 0), 1)), (2, 1)), (1,)),
            (((((0, 0), 1), ((0, 1), -2), ((1, 1), 1)), (2, 1)), (1,)),
            (((((0, 0), 1), ((0, 1), -2), ((0, 2), 1), ((1, 1), 1)), (2, 1)), (1, 0, 1)),
        ]
        for (p, x), expected in examples:
            with self.subTest(p=p, x=x):
                self.assertEqual(row_at(p, x), expected)

    def test_the_row_is_empty_where_the_polynomial_becomes_0(self):
        self.assertEqual(row_at((((0, 0), -1), ((1, 0), 1)), (1, 1)), ())
        self.assertEqual(row_at((((0, 3), -1), ((1, 3), 2)), (1, 2)), ())
        self.assertEqual(row_at((((-1, -1), 1), ((-1, 0), 1), ((0, -1), -3), ((0, 0), -3)), (1, 3)), ())

    def test_rows_tell_their_polynomials(self):
        for p in POLYNOMIALS:
            for x in [(1, 1), (2, 1), (1, 2), (5, 7), (10, 3)]:
                row = row_at(p, x)
                self.assertIs(type(row), tuple)
                self.assertTrue(all(is_integer(entry) for entry in row))
                if not row:
                    self.assertEqual(plain_value(p, x, (3, 1)), 0)
                    continue
                self.assertEqual(gcd(*row), 1)
                self.assertNotEqual(row[0], 0)
                self.assertNotEqual(row[-1], 0)
                self.check_that_it_is_the_same(p, x, row)

    def check_that_it_is_the_same(self, p, x, row):
        plain = {}
        for (a, b), c in p:
            plain[b] = plain.get(b, 0) + c * Fraction(*x) ** a
        low = min(b for b in plain if plain[b] != 0)
        high = max(b for b in plain if plain[b] != 0)
        self.assertEqual(len(row), high - low + 1)
        factor = row[0] / plain[low]
        self.assertGreater(factor, 0)
        self.assertEqual(list(row), [factor * plain.get(b, 0) for b in range(low, high + 1)])


class SameAgain(unittest.TestCase):
    def test_equal_arguments_give_equal_results(self):
        for p in POLYNOMIALS:
            twin = tuple(tuple(term) for term in p)
            self.assertEqual(times(p, POLYNOMIALS[-1]), times(twin, POLYNOMIALS[-1]))
            self.assertEqual(row_at(p, (2, 3)), row_at(twin, (2, 3)))
            self.assertEqual(value(p, (2, 3), (1, 5)), value(twin, (2, 3), (1, 5)))


if __name__ == "__main__":
    unittest.main()
