"""Fractions: tuples (n, d) in lowest terms with d of at least 1."""

from math import gcd


def fraction(numerator, denominator):
    """Returns the fraction of two integers, the second of which is not 0."""
    divisor = gcd(numerator, denominator)
    if denominator < 0:
        divisor = -divisor
    return (numerator // divisor, denominator // divisor)


def add(a, b):
    """Returns the sum of two fractions."""
    return fraction(a[0] * b[1] + b[0] * a[1], a[1] * b[1])


def subtract(a, b):
    """Returns a fraction minus another one."""
    return fraction(a[0] * b[1] - b[0] * a[1], a[1] * b[1])


def multiply(a, b):
    """Returns the product of two fractions."""
    return fraction(a[0] * b[0], a[1] * b[1])


def divide(a, b):
    """Returns a fraction divided by another one, which is not 0."""
    return fraction(a[0] * b[1], a[1] * b[0])


def compare(a, b):
    """Returns -1, 0 or 1 if a is less than, equal to or greater than b."""
    left = a[0] * b[1]
    right = b[0] * a[1]
    if left < right:
        return -1
    if left > right:
        return 1
    return 0


def raised(a, exponent):
    """Returns a fraction to the power of an integer; it is not 0 if the integer is negative."""
    if exponent < 0:
        return repeated(divide((1, 1), a), -exponent, (1, 1), multiply)
    return repeated(a, exponent, (1, 1), multiply)


def repeated(base, exponent, one, combine):
    """Returns the power of what combine multiplies, with an exponent of at least 0; one is the power with 0."""
    result = one
    square = base
    left = exponent
    while left > 0:
        if left & 1:
            result = combine(result, square)
        left >>= 1
        # The last square would be the largest value of all, and no one needs it.
        if left > 0:
            square = combine(square, square)
    return result
