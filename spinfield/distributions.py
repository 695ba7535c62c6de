"""Distributions of the states of small spins, and what tables of moves make of them."""

from math import lcm

from spinfield.correlations import check_above_zero
from spinfield.errors import TooLarge
from spinfield.fractions import add, divide, fraction, multiply, raised
from spinfield.spins import all_states, cost, ups

MOST_VERTICES = 6


def distribution_of(spins, x, y):
    """Returns the distribution of the states. Raises InvalidWeight, then TooLarge."""
    check_small(spins, x, y)
    weights = weights_of(spins, x, y)
    total = (0, 1)
    for weight in weights:
        total = add(total, weight)
    return tuple(divide(weight, total) for weight in weights)


def check_small(spins, x, y):
    """Raises InvalidWeight if x or y is not above 0, then TooLarge if there are more than 6 vertices."""
    check_above_zero(x, y)
    if len(spins.fields) > MOST_VERTICES:
        raise TooLarge("too many vertices")


def weights_of(spins, x, y):
    """Returns the list of x to the power of the cost times y to the power of the ups, for all states in order."""
    return [multiply(raised(x, cost(spins, state)), raised(y, ups(state))) for state in all_states(spins)]


def after(distribution, table):
    """Returns the distribution behind a move."""
    reached = dict(_row_behind(list(enumerate(distribution)), _rows_of_integers(table)))
    return tuple(reached.get(index, (0, 1)) for index in range(len(distribution)))


def keeps(distribution, table):
    """Returns True if a table keeps a distribution, otherwise False."""
    return after(distribution, table) == tuple(distribution)


def is_balanced(distribution, table):
    """Returns True if a table is balanced for a distribution, otherwise False."""
    flows = {}
    for index, row in enumerate(table):
        for other, chance in row:
            flows[(index, other)] = multiply(distribution[index], chance)
    return all(flows[(index, other)] == flows.get((other, index), (0, 1)) for index, other in flows)


def followed(first, second):
    """Returns the table of two moves, one after the other."""
    rows = _rows_of_integers(second)
    return tuple(_row_behind(row, rows) for row in first)


def _rows_of_integers(table):
    """Returns the list of the rows of a table, each as _over_one_number has it."""
    return [_over_one_number(row) for row in table]


def _over_one_number(pairs):
    """Returns the pair of a common denominator of pairs (index, chance) and the list of them with their numerators."""
    common = 1
    for _, chance in pairs:
        common = lcm(common, chance[1])
    return common, [(index, chance[0] * (common // chance[1])) for index, chance in pairs]


def _row_behind(pairs, rows):
    """Returns the pairs (index, chance) to which pairs lead by the rows of a table."""
    # Many products are added up; with integers none of the sums has to be reduced before the last one.
    common, parts = _over_one_number([(index, divide(chance, (rows[index][0], 1))) for index, chance in pairs])
    sums = {}
    for between, part in parts:
        for index, further in rows[between][1]:
            sums[index] = sums.get(index, 0) + part * further
    return tuple((index, fraction(sums[index], common)) for index in sorted(sums))
