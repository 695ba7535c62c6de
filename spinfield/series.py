"""Series in t up to some power, their exponentials and logarithms, and the cumulants of spins."""

from math import factorial

from spinfield.fractions import add, divide, fraction, multiply, subtract
from spinfield.transfer import least_width, sum_by_transfer


def series_product(first, second):
    """Returns the product of two series of the same order."""
    return tuple(_sum_of_products(first, second, order) for order in range(len(first)))


def _sum_of_products(first, second, order):
    """Returns what two lists of coefficients give to the power of t with this order."""
    total = (0, 1)
    for k in range(order + 1):
        total = add(total, multiply(first[k], second[order - k]))
    return total


def exponential(series):
    """Returns the exponential of a series whose first entry is 0."""
    # The derivative of the exponential e of f is e times the derivative of f.
    entries = [(1, 1)]
    steps = _with_factors(series)
    for order in range(1, len(series)):
        entries.append(divide(_sum_of_products(steps[1:], entries, order - 1), (order, 1)))
    return tuple(entries)


def logarithm(series):
    """Returns the logarithm of a series whose first entry is 1."""
    # As for the exponential, but the derivative of f, entry by entry, is what is not known.
    slopes = []
    steps = _with_factors(series)
    for order in range(1, len(series)):
        known = _sum_of_products(slopes + [(0, 1)], series, order - 1)
        slopes.append(subtract(steps[order], known))
    return ((0, 1),) + tuple(divide(slope, (k + 1, 1)) for k, slope in enumerate(slopes))


def _with_factors(series):
    """Returns the list of the entries of a series, each one times the power of t at which it stands."""
    return [multiply((k, 1), entry) for k, entry in enumerate(series)]


def cumulants(spins, count):
    """Returns the tuple of the first cumulants, as many as count."""
    total = sum_by_transfer(spins, least_width(spins)[1])
    # Each pair has a cost, and the number of states with it times a power of the cost.
    pairs = [(a, c) for (a, _), c in total]
    means = []
    for k in range(count + 1):
        means.append(fraction(sum(many for _, many in pairs), factorial(k) << len(spins.fields)))
        pairs = [(paid, many * paid) for paid, many in pairs]
    found = logarithm(tuple(means))
    return tuple(multiply(found[k], (factorial(k), 1)) for k in range(1, count + 1))
