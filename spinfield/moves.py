"""Tables of moves that keep the distribution of the states, and joint weights of states and sets of edges."""

from spinfield.distributions import check_small, weights_of
from spinfield.errors import HasField, InvalidWeight, TooLarge
from spinfield.fractions import add, compare, divide, multiply, raised, subtract
from spinfield.spins import all_states, check_ferro, ups

MOST_EDGES = 10
MOST_JOINT_EDGES = 8


def heat_bath(spins, vertex, x, y):
    """Returns the table of the heat bath of a vertex. Raises InvalidWeight, then TooLarge."""
    check_small(spins, x, y)
    weights = weights_of(spins, x, y)
    bit = _bits(spins)[vertex]
    table = []
    for index in range(len(weights)):
        down, up = index & ~bit, index | bit
        chance = divide(weights[up], add(weights[down], weights[up]))
        table.append(((down, subtract((1, 1), chance)), (up, chance)))
    return tuple(table)


def _bits(spins):
    """Returns for each vertex what it adds to the index of a state in which it is up."""
    last = len(spins.fields) - 1
    return [1 << (last - vertex) for vertex in range(last + 1)]


def trial(spins, vertex, x, y):
    """Returns the table of the trial of a vertex. Raises InvalidWeight, then TooLarge."""
    check_small(spins, x, y)
    weights = weights_of(spins, x, y)
    bit = _bits(spins)[vertex]
    table = []
    for index, weight in enumerate(weights):
        chance = divide(weights[index ^ bit], weight)
        if compare(chance, (1, 1)) > 0:
            chance = (1, 1)
        table.append(_row_of({index: subtract((1, 1), chance), index ^ bit: chance}))
    return tuple(table)


def _row_of(chances):
    """Returns the row of a table with the chances above 0 of a dict from the indexes of states."""
    return tuple((index, chances[index]) for index in sorted(chances) if chances[index] != (0, 1))


def cluster_move(spins, x, y):
    """Returns the table of the cluster move. Raises InvalidWeight, TooLarge, NotFerro, InvalidWeight, TooLarge."""
    _check_clusters(spins, x, y)
    shares = _shares_of_up(spins, x, y)
    table = []
    for state in all_states(spins):
        chances = {}
        for masks, chance in _joined_chances(spins, state, x).items():
            ways = [(0, chance)]
            for mask in sorted(set(masks)):
                up = shares[mask]
                risen = [(index | mask, multiply(part, up)) for index, part in ways]
                ways = risen + [(index, subtract(part, more)) for (index, part), (_, more) in zip(ways, risen)]
            _gather(chances, ways)
        table.append(_row_of(chances))
    return tuple(table)


def _check_clusters(spins, x, y):
    """Raises the errors of cluster_move."""
    check_small(spins, x, y)
    check_ferro(spins)
    if compare(x, (1, 1)) > 0:
        raise InvalidWeight("x is above 1")
    if len(spins.edges) > MOST_EDGES:
        raise TooLarge("too many edges")


def _shares_of_up(spins, x, y):
    """Returns for each mask of vertices the chance that they become up as a whole."""
    shares = []
    for mask in range(1 << len(spins.fields)):
        inside = [field for field, bit in zip(spins.fields, _bits(spins)) if mask & bit]
        weight = multiply(raised(x, sum(inside)), raised(y, len(inside)))
        shares.append(divide(weight, add((1, 1), weight)))
    return shares


def _joined_chances(spins, state, x):
    """Returns a dict from the masks of clusters, for each vertex that of its own, to the chances that edges join so."""
    found = {tuple(_bits(spins)): (1, 1)}
    for u, v, j in spins.edges:
        if state[u] == state[v]:
            left = raised(x, j)
            grown = {}
            for masks in found:
                both = masks[u] | masks[v]
                joined = tuple(both if mask & both else mask for mask in masks)
                more = multiply(found[masks], left)
                _gather(grown, [(masks, more), (joined, subtract(found[masks], more))])
            found = grown
    return found


def _gather(chances, pairs):
    """Adds chances, told as pairs with their keys, to those in a dict."""
    for key, chance in pairs:
        chances[key] = add(chances.get(key, (0, 1)), chance)


def single_turn(spins, x):
    """Returns the table of the single turn. Raises the errors of cluster_move, then HasField."""
    _check_clusters(spins, x, (1, 1))
    if any(spins.fields):
        raise HasField("a field is not 0")
    table = []
    for index, state in enumerate(all_states(spins)):
        chances = {}
        for masks, chance in _joined_chances(spins, state, x).items():
            each = divide(chance, (len(masks), 1))
            _gather(chances, [(index ^ mask, each) for mask in masks])
        table.append(_row_of(chances))
    return tuple(table)


def joint_sums(spins, x, y):
    """Returns the pair of the tuples of the sums of the joint weights for each state and for each set of edges.

    The sets stand in the order of their masks. Raises InvalidWeight, then TooLarge.
    """
    check_small(spins, x, y)
    if len(spins.edges) > MOST_JOINT_EDGES:
        raise TooLarge("too many edges")
    by_states = []
    by_sets = [(0, 1)] * (1 << len(spins.edges))
    for state in all_states(spins):
        weights = _joint_weights(spins, state, x, y)
        by_states.append(_sum_of(weights))
        by_sets = [add(total, weight) for total, weight in zip(by_sets, weights)]
    return tuple(by_states), tuple(by_sets)


def _joint_weights(spins, state, x, y):
    """Returns the list of the joint weights of a state and all sets of edges."""
    paid = sum(field for field, spin in zip(spins.fields, state) if spin == 1)
    weights = [multiply(raised(x, paid), raised(y, ups(state)))]
    for u, v, j in spins.edges:
        # The sets with this edge stand behind all without it and later ones.
        left = raised(x, j)
        taken = subtract((1, 1), left) if state[u] == state[v] else (0, 1)
        weights = [multiply(weight, left) for weight in weights] + [multiply(weight, taken) for weight in weights]
    return weights


def _sum_of(numbers):
    """Returns the sum of fractions."""
    total = (0, 1)
    for number in numbers:
        total = add(total, number)
    return total
