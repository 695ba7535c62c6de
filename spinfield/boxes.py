"""Boxes of complex numbers, the roots of rows inside them, and the roots on the unit circle."""

from spinfield.errors import InvalidBox
from spinfield.fractions import add, compare, fraction, multiply, subtract
from spinfield.roots import (
    bound_of, check_width, primitive, real_count, real_count_in_all, signed_chain, value_at, without_repeats,
)

UNITS = 4
MOST_STEPS = 3
LEAST_BITS = 3
REAL_SIGNS = (1, 0, -1, 0)
IMAGINARY_SIGNS = (0, 1, 0, -1)


def box_count(row, box):
    """Returns the number of roots inside a box, or None if one lies on its border. Raises InvalidBox."""
    left, right, low, high = box
    if compare(left, right) >= 0 or compare(low, high) >= 0:
        raise InvalidBox("a side is empty or turned")
    return _many_inside(without_repeats(row), box, {})


def _many_inside(row, box, lines):
    """Returns what box_count does, for a row that has no root repeatedly; lines keeps the chains of its lines."""
    # While a number goes once round the border, the value of the row goes round 0 once
    # for each root inside. Each such round makes 4 of what is counted here.
    left, right, low, high = box
    count = 0
    for upright, at, start, end, sign in (
        (False, low, left, right, 1), (True, right, low, high, 1),
        (False, high, left, right, -1), (True, left, low, high, -1),
    ):
        if (upright, at) not in lines:
            lines[(upright, at)] = _chain_along(row, upright, at)
        chain = lines[(upright, at)]
        if _has_root(chain[-1], start, end):
            return None
        count += sign * (_sum_of_changes(chain, start) - _sum_of_changes(chain, end))
    return count // 4


def _chain_along(row, upright, at):
    """Returns the chain of the imaginary and the real part of a row at at + i t, or, if not upright, at t + i at."""
    numerator, denominator = at
    start, step = ((numerator, 0), (0, denominator)) if upright else ((0, numerator), (denominator, 0))
    pairs = _along(_widened(row, denominator), start, step)
    return signed_chain(primitive([im for _, im in pairs]), primitive([re for re, _ in pairs]))


def _has_root(row, low, high):
    """Returns True if a row has a real root from low to high, otherwise False."""
    return len(row) > 1 and (value_at(row, low) == 0 or real_count(row, low, high) > 0)


def _sum_of_changes(chain, point):
    """Returns the sum of the changes of the sign along a chain: 2 from one sign to the other, 1 from or to 0."""
    signs = [compare((value_at(row, point), 1), (0, 1)) for row in chain]
    return sum(abs(before - behind) for before, behind in zip(signs, signs[1:]))


def _widened(row, factor):
    """Returns the row whose roots are those of a row times an integer above 0."""
    found = []
    power = 1
    for entry in reversed(row):
        found.append(entry * power)
        power *= factor
    return found[::-1]


def _along(row, start, step):
    """Returns the coefficients of ascending powers of t of a row at start + step * t.

    Complex numbers are pairs of integers here.
    """
    (a, b), (c, d) = start, step
    found = []
    for entry in reversed(row):
        kept = [(a * re - b * im, a * im + b * re) for re, im in found] + [(0, 0)]
        moved = [(0, 0)] + [(c * re - d * im, c * im + d * re) for re, im in found]
        found = [(p + r, q + s) for (p, q), (r, s) in zip(kept, moved)]
        found[0] = (found[0][0] + entry, found[0][1])
    return found


def root_boxes(row, width):
    """Returns a list of boxes, with sides not longer than the width, that isolates the roots. Raises InvalidBox."""
    check_width(width)
    simple = without_repeats(row)
    bound = bound_of(simple)
    waiting = [(_box_around((0, 1), (0, 1), bound), len(simple) - 1, LEAST_BITS)]
    lines = {}
    found = []
    while waiting:
        box, many, bits = waiting.pop()
        if many == 1 and not _is_wider(box, width):
            found.append(box)
        elif many > 0:
            # As long as Newton's steps lead on, they may lead twice as far the next time.
            close = _closed_in(simple, box, many, bits)
            if close is not None:
                waiting.append((close, many, 2 * bits))
            else:
                first, second, inside = _parted(simple, box, lines)
                fewer = max(LEAST_BITS, bits // 2)
                waiting += [(second, many - inside, fewer), (first, inside, fewer)]
    return found


def _box_around(re, im, radius):
    """Returns a box with all numbers inside that are nearer to re + im i than a radius."""
    # This number lies at a third of each side, and so it does in all halves of halves:
    # roots close to it are not soon taken apart.
    wide = add(radius, radius)
    return subtract(re, radius), add(re, wide), subtract(im, radius), add(im, wide)


def _is_wider(box, width):
    """Returns True if a side of a box is longer than a width, otherwise False."""
    left, right, low, high = box
    return compare(subtract(right, left), width) > 0 or compare(subtract(high, low), width) > 0


def _parted(row, box, lines):
    """Returns the two parts of a box, between which no root lies, and the number of roots inside the first one."""
    # There are more lines to try, all near the middle, than roots that could lie on them.
    shares = 1 << len(row).bit_length()
    share = shares
    inside = None
    while inside is None:
        first, second = _cut(box, fraction(share, 2 * shares))
        inside = _many_inside(row, first, lines)
        share += 1
    return first, second, inside


def _cut(box, share):
    """Returns the two parts of a box, the first of which has a share of its longer sides."""
    left, right, low, high = box
    if compare(subtract(right, left), subtract(high, low)) >= 0:
        middle = add(left, multiply(share, subtract(right, left)))
        return (left, middle, low, high), (middle, right, low, high)
    middle = add(low, multiply(share, subtract(high, low)))
    return (left, right, low, middle), (left, right, middle, high)


def _closed_in(row, box, many, bits):
    """Returns a part of a box, smaller by so many bits, that has all of its roots, or None if none was found."""
    left, right, low, high = box
    side = subtract(right, left)
    parts = 1
    while side[0] * parts < (side[1] * UNITS) << bits:
        parts *= 2
    radius = side[0] * parts // (side[1] << bits)
    widened = _widened(row, parts)
    a, b = _middle(left, right, parts), _middle(low, high, parts)
    for _ in range(MOST_STEPS):
        pairs = _along(widened, (a, b), (1, 0))
        # The circle with this radius then has all roots of the box, so a box around it
        # has them inside, and none on its border.
        if _has_within(pairs, many, radius):
            close = _box_around(fraction(a, parts), fraction(b, parts), fraction(radius, parts))
            return close if _lies_in(close, box) else None
        (p, q), (r, s) = pairs[:2]
        size = r * r + s * s
        if size == 0:
            return None
        a -= _nearest(many * (p * r + q * s), size)
        b -= _nearest(many * (q * r - p * s), size)
    return None


def _middle(low, high, parts):
    """Returns the middle between two fractions, in units of which so many make 1."""
    numerator, denominator = add(low, high)
    return _nearest(numerator * parts, 2 * denominator)


def _nearest(numerator, denominator):
    """Returns an integer that is nearest to a quotient, whose denominator is above 0."""
    return (2 * numerator + denominator) // (2 * denominator)


def _has_within(pairs, many, radius):
    """Returns True if coefficients of powers of t surely have just so many roots nearer to 0 than a radius."""
    # It is so if the part with this power of t is greater, all around, than all others together.
    power = 1
    spare = 0
    for k, (re, im) in enumerate(pairs):
        if k == many:
            spare += max(abs(re), abs(im)) * power
        else:
            spare -= (abs(re) + abs(im)) * power
        power *= radius
    return spare > 0


def _lies_in(box, other):
    """Returns True if a box is a part of another one, otherwise False."""
    lows = all(compare(box[k], other[k]) >= 0 for k in (0, 2))
    return lows and all(compare(box[k], other[k]) <= 0 for k in (1, 3))


def circle_count(row):
    """Returns the number of roots on the unit circle."""
    # With z = (1 + w) / (1 - w), the numbers w = i t, for all real t, become all numbers
    # of the circle but -1.
    moved = [row[-1]]
    share = [1]
    for entry in reversed(row[:-1]):
        share = [a - b for a, b in zip(share + [0], [0] + share)]
        moved = [a + b + entry * c for a, b, c in zip(moved + [0], [0] + moved, share)]
    real = primitive([entry * REAL_SIGNS[k & 3] for k, entry in enumerate(moved)])
    imaginary = primitive([entry * IMAGINARY_SIGNS[k & 3] for k, entry in enumerate(moved)])
    many = real_count_in_all(signed_chain(real, imaginary)[-1])
    return many + 1 if value_at(row, (-1, 1)) == 0 else many


def all_on_circle(row):
    """Returns True if all roots lie on the unit circle, otherwise False."""
    return circle_count(row) == len(without_repeats(row)) - 1
