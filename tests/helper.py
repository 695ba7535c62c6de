"""What several tests need: checks of kinds, and polynomials found in the plainest way."""

from fractions import Fraction


def is_integer(n):
    return type(n) is int


def is_fraction(f):
    """True for a tuple (n, d) in lowest terms with d of at least 1."""
    if not (type(f) is tuple and len(f) == 2 and all(is_integer(n) for n in f) and f[1] >= 1):
        return False
    exact = Fraction(f[0], f[1])
    return (exact.numerator, exact.denominator) == f


def is_polynomial(p):
    """True for a tuple of terms as the document has them."""
    if type(p) is not tuple:
        return False
    for term in p:
        if not (type(term) is tuple and len(term) == 2 and is_integer(term[1]) and term[1] != 0):
            return False
        if not (type(term[0]) is tuple and len(term[0]) == 2 and all(is_integer(n) for n in term[0])):
            return False
    pairs = [pair for pair, _ in p]
    return all(before < behind for before, behind in zip(pairs, pairs[1:]))


def gathered(terms):
    """The polynomial of terms, by a way of its own."""
    found = {}
    for pair, c in terms:
        found[pair] = found.get(pair, 0) + c
    return tuple(sorted((pair, c) for pair, c in found.items() if c != 0))


def product_of(factors):
    """The product of polynomials, by a way of its own."""
    result = gathered([((0, 0), 1)])
    for p in factors:
        result = gathered([((a + d, b + e), c * f) for (a, b), c in result for (d, e), f in p])
    return result


def plain_value(p, x, y):
    """The value of a polynomial at two fractions, as one of Python's own fractions."""
    return sum((c * Fraction(*x) ** a * Fraction(*y) ** b for (a, b), c in p), Fraction(0))
