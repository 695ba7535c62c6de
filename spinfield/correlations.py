"""Pair sums and correlations of two vertices, and the mean and the spread of the ups."""

from spinfield.errors import InvalidWeight
from spinfield.fractions import compare, divide, multiply, subtract
from spinfield.polynomials import ONE, plus, polynomial, times, value
from spinfield.spins import all_states, cost, ups
from spinfield.transfer import carried, check_order, least_width, sum_by_transfer


def pair_sum(spins, u, v):
    """Returns the pair sum of two vertices, perhaps the same one, found state by state."""
    terms = []
    for state in all_states(spins):
        terms.append(((cost(spins, state), ups(state)), 1 if state[u] == state[v] else -1))
    return polynomial(terms)


def pair_by_transfer(spins, order, u, v):
    """Returns the pair sum of two vertices, found along an order. Raises InvalidOrder."""
    check_order(spins, order)

    def pay(p, vertex, spin, price):
        # The two signs of a vertex that is both u and v leave the sum as it is.
        turned = spin == 0 and (vertex == u) != (vertex == v)
        return times(p, (((price, spin), -1 if turned else 1),))

    return carried(spins, order, ONE, pay, plus)


def correlation(spins, u, v, x, y):
    """Returns the correlation of two vertices. Raises InvalidWeight if x or y is not above 0."""
    check_above_zero(x, y)
    order = list(least_width(spins)[1])
    above = value(pair_by_transfer(spins, order, u, v), x, y)
    return divide(above, value(sum_by_transfer(spins, order), x, y))


def check_above_zero(x, y):
    """Raises InvalidWeight if one of two fractions is not above 0."""
    if compare(x, (0, 1)) <= 0 or compare(y, (0, 1)) <= 0:
        raise InvalidWeight("x or y is not above 0")


def ups_mean(spins, x, y):
    """Returns the mean of the ups. Raises InvalidWeight if x or y is not above 0."""
    return _mean_and_mean_of_squares(spins, x, y)[0]


def ups_spread(spins, x, y):
    """Returns the spread of the ups. Raises InvalidWeight if x or y is not above 0."""
    mean, mean_of_squares = _mean_and_mean_of_squares(spins, x, y)
    return subtract(mean_of_squares, multiply(mean, mean))


def _mean_and_mean_of_squares(spins, x, y):
    """Returns the pair of the means of the ups and of their squares. Raises InvalidWeight."""
    check_above_zero(x, y)
    total = sum_by_transfer(spins, least_width(spins)[1])
    once = polynomial([((a, b), b * c) for (a, b), c in total])
    twice = polynomial([((a, b), b * c) for (a, b), c in once])
    whole = value(total, x, y)
    return divide(value(once, x, y), whole), divide(value(twice, x, y), whole)
