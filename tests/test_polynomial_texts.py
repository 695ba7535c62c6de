"""Point 6: the texts of polynomials."""

import unittest

from helper import is_polynomial
from spinfield.errors import FieldError, PolynomialSyntaxError
from spinfield.polynomials import format_polynomial, parse_polynomial, polynomial, times

EXAMPLES = [
    ((), "0"),
    ((((0, 0), 1),), "1"),
    ((((0, 0), -1),), "-1"),
    ((((0, 0), 7),), "7"),
    ((((0, 0), -10),), "-10"),
    ((((1, 0), 1),), "x"),
    ((((0, 1), 1),), "y"),
    ((((1, 0), -1),), "-x"),
    ((((0, 1), -1),), "-y"),
    ((((1, 1), 1),), "x*y"),
    ((((1, 1), -1),), "-x*y"),
    ((((2, 0), 1),), "x^2"),
    ((((0, -1), 1),), "y^-1"),
    ((((-1, 0), 1),), "x^-1"),
    ((((-3, 10), -12),), "-12*x^-3*y^10"),
    ((((1, 0), 3),), "3*x"),
    ((((0, 1), -3),), "-3*y"),
    ((((1, 2), 5),), "5*x*y^2"),
    ((((2, 1), 11),), "11*x^2*y"),
    ((((0, 0), 1), ((1, 0), 1)), "1 + x"),
    ((((0, 0), 1), ((1, 0), -1)), "1 - x"),
    ((((0, 0), -1), ((1, 0), -1)), "-1 - x"),
    ((((-1, 0), 1), ((0, 0), -1)), "x^-1 - 1"),
    ((((-1, 0), -2), ((0, 0), 1)), "-2*x^-1 + 1"),
    ((((0, 2), 4), ((1, 1), -4), ((2, 0), 1)), "4*y^2 - 4*x*y + x^2"),
    ((((0, 0), 1), ((1, 2), 1), ((2, 1), 1), ((3, 1), 1)), "1 + x*y^2 + x^2*y + x^3*y"),
    ((((-2, -3), 10), ((-2, 0), -1), ((0, -1), 1), ((0, 0), 20), ((0, 1), -30)),
     "10*x^-2*y^-3 - x^-2 + y^-1 + 20 - 30*y"),
    ((((10, 100), 123456789012345678901234567890),), "123456789012345678901234567890*x^10*y^100"),
    ((((-10 ** 29, 10 ** 29), 1),), "x^-1" + "0" * 29 + "*y^1" + "0" * 29),
]

WRONG = [
    # Nothing, spaces, line feeds.
    "", " ", "\n", " 1", "1 ", "1\n", "\n1", "x\n", "1 + x\n", "1 + x ", " 1 + x", "1\t+ x", "1 +\nx", "1\r",
    # Signs.
    "+", "-", "+1", "+x", "--1", "- 1", "-+1", "1 +", "1 + ", "1 -", " + 1", "+ 1", "1 + -x", "1 - -x", "1 + +x",
    "1 * x", "1 / x", "1 x", "1 ? x", "1 = x", "1 + - x",
    # Missing and doubled spaces.
    "1+x", "1 +x", "1+ x", "1  + x", "1 +  x", "1-x", "1 -x", "1- x", "1 - x  - y", "x *y", "x* y", "x ^2", "x^ 2",
    "x^2 *y", "3 *x", "- x", "1 + + x", "1 + x + ",
    # Numbers.
    "-0", "00", "01", "-01", "1 + 0", "1 - 0", "0 + x", "0 - x", "1_0", "1.0", "1e2", "0x1", "+0", "007*x",
    "1 + 02*x", "\u0661", "\u00b2", "x^\u00b2", "x^\u0662", "\uff11",
    # Coefficients.
    "1*x", "-1*x", "1 + 1*x", "1 - 1*x", "0*x", "-0*x", "1 + 0*x", "1 - 0*y", "02*x", "2*3", "2*3*x", "1*1", "-x*-1",
    "2*-x", "x*2", "2x", "xy", "x2", "2*x*3", "*x", "x*", "2*", "2**x", "x**2", "x**y", "-*x",
    # Exponents.
    "x^0", "y^0", "2*x^0", "x^1", "y^1", "x*y^1", "x^-0", "x^+2", "x^02", "x^-02", "x^", "x^-", "x^--1", "x^^2",
    "x^2^2", "x^y", "^2", "2^2", "x^2x", "x^1.5", "x^(2)", "x^-1-", "x^ -1", "y^01", "x^00", "x^-00",
    # Letters.
    "X", "Y", "z", "a", "x*z", "y*x", "x*x", "y*y", "x^2*x", "x^-1*x", "x*y*y", "x*y*x", "y^2*x", "\u0445", "(x)", "xx",
    # The order of the terms, and equal exponents.
    "x + 1", "y + 1", "x + y", "x - y", "x^2 + x", "x*y + x", "1 + x^-1", "1 + y^-1", "1 + 1", "x + x", "x - x",
    "2*x + 3*x", "1 + x + x^2 + x", "x^10 + x^9", "y + x + y", "x^-1 + x^-2", "1 + x + x",
]


class Texts(unittest.TestCase):
    def test_examples(self):
        for p, text in EXAMPLES:
            with self.subTest(text=text):
                self.assertEqual(format_polynomial(p), text)
                self.assertEqual(parse_polynomial(text), p)

    def test_the_example_of_the_interface(self):
        p = polynomial([((1, 0), 1), ((0, 1), -2)])
        self.assertEqual(format_polynomial(times(p, p)), "4*y^2 - 4*x*y + x^2")

    def test_long_numbers_are_written(self):
        number = 10 ** 999 + 1
        digits = "1" + "0" * 998 + "1"
        self.assertEqual(format_polynomial((((0, 0), number),)), digits)
        self.assertEqual(format_polynomial((((number, -number), -number),)), f"-{digits}*x^{digits}*y^-{digits}")

    def test_each_polynomial_comes_back_from_its_text(self):
        for a in range(-3, 4):
            for b in range(-3, 4):
                for c in (-11, -2, -1, 1, 2, 30):
                    for d in (-10, -1, 1, 5):
                        p = polynomial([((a, b), c), ((1, -1), d)])
                        self.assertEqual(parse_polynomial(format_polynomial(p)), p)

    def test_a_long_text(self):
        p = polynomial([((a, a % 5 - 2), -a if a % 2 else a) for a in range(-300, 300)])
        text = format_polynomial(p)
        self.assertLess(len(text), 10000)
        self.assertEqual(parse_polynomial(text), p)
        self.assertTrue(is_polynomial(parse_polynomial(text)))


class WrongTexts(unittest.TestCase):
    def test_each_of_them_is_refused(self):
        for text in WRONG:
            with self.subTest(text=text), self.assertRaises(PolynomialSyntaxError):
                parse_polynomial(text)

    def test_it_is_a_field_error(self):
        with self.assertRaises(FieldError):
            parse_polynomial("x + 1")

    def test_long_wrong_texts(self):
        factor = "9" * 30
        for text in ["*".join([factor] * 300), "x*" * 4000, "^" * 9000, " " * 9999, "1 + " * 2000, "-" * 5000]:
            with self.subTest(text=text[:10]), self.assertRaises(PolynomialSyntaxError):
                parse_polynomial(text)

    def test_signs_that_are_put_into_right_texts(self):
        for _, text in EXAMPLES:
            if len(text) > 40:
                continue
            for place in range(len(text) + 1):
                for sign in (" ", "\n", "*", "^", "+", "z"):
                    with self.subTest(text=text, place=place, sign=sign), self.assertRaises(PolynomialSyntaxError):
                        parse_polynomial(text[:place] + sign + text[place:])


if __name__ == "__main__":
    unittest.main()
