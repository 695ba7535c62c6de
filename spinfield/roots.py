"""Rows, which stand for polynomials in one variable, and their real roots."""

from math import gcd

from spinfield.errors import InvalidBox
from spinfield.fractions import add, compare, multiply, raised, subtract


def real_count(row, low, high):
    """Returns the number of real roots above low and up to high. Raises InvalidBox."""
    if compare(low, high) >= 0:
        raise InvalidBox("low is not less than high")
    return _many_between(_sturm_chain(without_repeats(row)), low, high)


def real_count_in_all(row):
    """Returns the number of all real roots of a row."""
    bound = bound_of(row)
    return real_count(row, subtract((0, 1), bound), bound)


def real_intervals(row, width):
    """Returns a list of intervals, not longer than the width, that isolates the real roots. Raises InvalidBox."""
    check_width(width)
    simple = without_repeats(row)
    chain = _sturm_chain(simple)
    bound = bound_of(simple)
    waiting = [(subtract((0, 1), bound), bound)]
    found = []
    while waiting:
        low, high = waiting.pop()
        many = _many_between(chain, low, high)
        if many == 1:
            found.append(_narrowed(simple, low, high, width))
        elif many > 1:
            middle = _middle(low, high)
            waiting += [(middle, high), (low, middle)]
    return found


def check_width(width):
    """Raises InvalidBox if a width is not above 0."""
    if compare(width, (0, 1)) <= 0:
        raise InvalidBox("the width is not above 0")


def _narrowed(row, low, high, width):
    """Returns a part, not longer than the width, with the only root of an interval. No root is one repeatedly."""
    # The low end may be a root that belongs to the interval before; only the high one tells.
    end = value_at(row, high)
    while end != 0 and compare(subtract(high, low), width) > 0:
        middle = _middle(low, high)
        found = value_at(row, middle)
        if found != 0 and (found < 0) != (end < 0):
            low = middle
        else:
            high, end = middle, found
    if compare(subtract(high, low), width) > 0:
        low = subtract(high, width)
    return low, high


def _middle(low, high):
    """Returns the fraction in the middle between two."""
    return multiply(add(low, high), (1, 2))


def value_at(row, point):
    """Returns an integer, the value of a row at a fraction times a number above 0."""
    numerator, denominator = point
    total = 0
    power = 1
    for entry in reversed(row):
        total = total * numerator + entry * power
        power *= denominator
    return total


def bound_of(row):
    """Returns a power of 2, a fraction, that is greater than the distance of each root from 0."""
    # With the size of the entry k places before the last one, divided by that of the
    # last one, no root is farther from 0 than 2 times the greatest k-th root of these.
    last = abs(row[-1]).bit_length()
    exponents = [0]
    if any(row[:-1]):
        lower = [(k, entry) for k, entry in enumerate(reversed(row)) if k > 0 and entry != 0]
        exponents = [-((last - 1 - abs(entry).bit_length()) // k) for k, entry in lower]
    return raised((2, 1), max(exponents) + 1)


def _many_between(chain, low, high):
    """Returns the number of real roots above low and up to high of the first row of its Sturm chain."""
    return _changes(chain, low) - _changes(chain, high)


def _changes(chain, point):
    """Returns the number of changes of the sign along the values of a chain of rows, zeros left out."""
    numbers = [value_at(row, point) for row in chain]
    numbers = [number for number in numbers if number != 0]
    return sum(1 for before, behind in zip(numbers, numbers[1:]) if (before < 0) != (behind < 0))


def _sturm_chain(row):
    """Returns the Sturm chain of a row that has no root repeatedly."""
    return signed_chain(row, _derived(row))


def signed_chain(first, second):
    """Returns the list of two rows, one of which may be (), and of remainders with opposite signs, up to the last.

    Each further row is a positive multiple of the negative remainder of the two before
    it. The last one has just the roots that the first two have in common.
    """
    chain = [first]
    behind = second
    while behind:
        chain.append(behind)
        behind = tuple(-entry for entry in _remainder(chain[-2], behind))
    return chain


def without_repeats(row):
    """Returns a row with the same roots, each of them once."""
    first = primitive(row)
    common = signed_chain(first, _derived(first))[-1]
    return _divided(first, primitive(common))


def _derived(row):
    """Returns a positive multiple of the derivative of a row, which is () if the row has one entry."""
    return primitive([k * entry for k, entry in enumerate(row)][1:])


def primitive(entries):
    """Returns the row of entries without zeros at the end and without a common divisor above 1."""
    row = _trimmed(entries)
    divisor = 0
    for entry in row:
        divisor = gcd(divisor, entry)
    return tuple(entry // divisor for entry in row)


def _trimmed(entries):
    """Returns entries without zeros at the end."""
    many = len(entries)
    while many > 0 and entries[many - 1] == 0:
        many -= 1
    return entries[:many]


def _remainder(row, divisor):
    """Returns a positive multiple of the remainder of a row divided by another one."""
    left = list(row)
    last = divisor[-1]
    while len(left) >= len(divisor):
        common = gcd(left[-1], last)
        factor = abs(last) // common
        taken = left[-1] // common if last > 0 else -left[-1] // common
        lower = [0] * (len(left) - len(divisor)) + list(divisor)
        left = _trimmed([factor * a - taken * b for a, b in zip(left, lower)])
    return primitive(left)


def _divided(row, divisor):
    """Returns a row divided by another one that leaves no remainder, and no fractions."""
    left = list(row)
    found = []
    while len(left) >= len(divisor):
        factor = left[-1] // divisor[-1]
        found.append(factor)
        shift = len(left) - len(divisor)
        for k, entry in enumerate(divisor):
            left[shift + k] -= factor * entry
        left.pop()
    return tuple(found[::-1])
