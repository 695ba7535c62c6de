"""Polynomials in x and y: tuples of terms ((a, b), c) with ascending pairs of exponents."""

from math import gcd, lcm

from spinfield.errors import PolynomialSyntaxError
from spinfield.fractions import add, multiply, raised, repeated

ONE = (((0, 0), 1),)
DIGITS = "0123456789"


def polynomial(terms):
    """Returns the polynomial that is the sum of a list of pairs ((a, b), c), in any order."""
    found = {}
    for (a, b), c in terms:
        found[(a, b)] = found.get((a, b), 0) + c
    return _in_order(found)


def _in_order(found):
    """Returns the polynomial of a dict from pairs of exponents to coefficients."""
    return tuple((pair, found[pair]) for pair in sorted(found) if found[pair] != 0)


def plus(p, q):
    """Returns the sum of two polynomials."""
    return polynomial(p + q)


def minus(p, q):
    """Returns a polynomial minus another one."""
    return polynomial(p + tuple((pair, -c) for pair, c in q))


def times(p, q):
    """Returns the product of two polynomials."""
    found = {}
    for (a, b), c in p:
        for (d, e), f in q:
            pair = (a + d, b + e)
            found[pair] = found.get(pair, 0) + c * f
    return _in_order(found)


def power(p, exponent):
    """Returns a polynomial to the power of an integer of at least 0."""
    return repeated(p, exponent, ONE, times)


def shared(p, divisor):
    """Returns a polynomial divided by an integer that is not 0, or None if it is not divisible."""
    if any(c % divisor != 0 for _, c in p):
        return None
    return tuple((pair, c // divisor) for pair, c in p)


def value(p, x, y):
    """Returns the value of a polynomial at two fractions that are not 0."""
    total = (0, 1)
    found = _coefficients_at(p, x)
    for b in found:
        total = add(total, multiply(found[b], raised(y, b)))
    return total


def _coefficients_at(p, x):
    """Returns a dict from the exponents of y to their coefficients at x, which are fractions."""
    powers = {}
    found = {}
    for (a, b), c in p:
        if a not in powers:
            powers[a] = raised(x, a)
        found[b] = add(found.get(b, (0, 1)), multiply((c, 1), powers[a]))
    return found


def row_at(p, x):
    """Returns the row of a polynomial at a fraction above 0, a tuple of integers."""
    found = _coefficients_at(p, x)
    exponents = [b for b in found if found[b] != (0, 1)]
    if not exponents:
        return ()
    multiple = 1
    for b in exponents:
        multiple = lcm(multiple, found[b][1])
    row = []
    divisor = 0
    for b in range(min(exponents), max(exponents) + 1):
        numerator, denominator = found.get(b, (0, 1))
        row.append(numerator * (multiple // denominator))
        divisor = gcd(divisor, row[-1])
    return tuple(entry // divisor for entry in row)


def format_polynomial(p):
    """Returns the text of a polynomial."""
    if not p:
        return "0"
    parts = []
    for pair, c in p:
        if parts:
            parts.append(" - " if c < 0 else " + ")
        elif c < 0:
            parts.append("-")
        parts.append(_format_term(pair, abs(c)))
    return "".join(parts)


def _format_term(pair, size):
    """Returns the text of a term, of whose coefficient only the size is told."""
    factors = []
    for letter, exponent in zip("xy", pair):
        if exponent == 1:
            factors.append(letter)
        elif exponent != 0:
            factors.append(f"{letter}^{exponent}")
    if size != 1 or not factors:
        factors.insert(0, str(size))
    return "*".join(factors)


def parse_polynomial(text):
    """Returns the polynomial with a text. Raises PolynomialSyntaxError for any other text."""
    if text.startswith("-"):
        words = ["-"] + text[1:].split(" ")
    else:
        words = ["+"] + text.split(" ")
    terms = []
    for sign, word in zip(words[::2], words[1::2]):
        pair, size = _read_term(word)
        terms.append((pair, -size if sign == "-" else size))
    p = polynomial(terms)
    # A text that is read too kindly above is never the text of what was read from it.
    if format_polynomial(p) != text:
        raise PolynomialSyntaxError("not the text of a polynomial")
    return p


def _read_term(word):
    """Returns the pair of the exponents of a term without a sign and its coefficient."""
    factors = word.split("*")
    # More factors could make numbers that are too long to be written.
    if len(factors) > 3:
        raise PolynomialSyntaxError("a term with too many factors")
    a, b, size = 0, 0, 1
    for factor in factors:
        if factor.startswith("x"):
            a += _read_exponent(factor[1:])
        elif factor.startswith("y"):
            b += _read_exponent(factor[1:])
        else:
            size *= _read_digits(factor)
    return (a, b), size


def _read_exponent(word):
    """Returns the exponent that is written behind a letter."""
    if word == "":
        return 1
    if word.startswith("^-"):
        return -_read_digits(word[2:])
    if word.startswith("^"):
        return _read_digits(word[1:])
    raise PolynomialSyntaxError("an exponent without its sign")


def _read_digits(word):
    """Returns the number that is written by decimal digits alone."""
    if word == "" or not all(sign in DIGITS for sign in word):
        raise PolynomialSyntaxError("not a number")
    return int(word)
