"""Points 28 and 29, and spinfield/roots.py."""

import random
import unittest
from fractions import Fraction
from itertools import product

from helper import exact, is_fraction, is_integer, near_roots, row_of, row_times, timed
from spinfield.errors import InvalidBox
from spinfield.roots import real_count, real_intervals

# Lists of roots as row_of has them: one several times, 0, fractions, complex ones, and none at all.
KNOWN = [
    [],
    [(0, 0)],
    [(0, 0), (0, 0), (0, 0)],
    [(1, 0)],
    [(Fraction(-1, 3), 0)],
    [(1, 0), (1, 0)],
    [(1, 0), (-1, 0), (2, 0)],
    [(1, 0), (1, 0), (-1, 0), (-1, 0), (-1, 0), (Fraction(1, 2), 0)],
    [(0, 1)],
    [(0, 1), (0, 1), (1, 1)],
    [(0, 1), (1, 0), (0, 0)],
    [(Fraction(1, 2), 0), (Fraction(1, 4), 0), (Fraction(3, 4), 0), (Fraction(-1, 2), 0), (0, 0)],
    [(Fraction(1, 3), 0), (Fraction(1, 3) + Fraction(1, 1000), 0), (Fraction(1, 3), Fraction(1, 1000))],
    [(k, 0) for k in range(-6, 6)],
    [(Fraction(k, 7), 0) for k in range(1, 13)],
    [(2, 0)] * 4 + [(-2, 0)] * 4 + [(0, 2)] * 2,
    [(0, 0)] * 12,
    [(5, 0), (5, Fraction(1, 10)), (5, Fraction(-1, 10)), (-5, 0), (-5, 3)],
]


def real_roots(roots):
    return sorted({Fraction(re) for re, im in roots if im == 0})


def chebyshev(order):
    """The row whose roots are the cosines of odd quarter turns by the order."""
    before, row = (1,), (0, 1)
    for _ in range(order - 1):
        doubled = row_times([row, (0, 2)])
        before, row = row, tuple(a - b for a, b in zip(doubled, before + (0,) * 9))
    return row


class Counts(unittest.TestCase):
    def count(self, row, low, high):
        found = real_count(row, low, high)
        self.assertTrue(is_integer(found))
        return found

    def test_of_the_interface(self):
        self.assertEqual(self.count((-2, 0, 1), (0, 1), (2, 1)), 1)

    def test_examples(self):
        examples = [
            ((-2, 0, 1), (-2, 1), (2, 1), 2), ((-2, 0, 1), (-1, 1), (1, 1), 0), ((-2, 0, 1), (-3, 2), (-7, 5), 1),
            ((2, 0, 1), (-9, 1), (9, 1), 0), ((0, 1), (-1, 1), (0, 1), 1), ((0, 1), (0, 1), (1, 1), 0),
            ((0, -1, 0, 1), (-1, 1), (1, 1), 2), ((0, -1, 0, 1), (-2, 1), (1, 1), 3), ((1, 2, 1), (-2, 1), (0, 1), 1),
            ((1, 2, 1), (-1, 1), (0, 1), 0), ((1, 2, 1), (-2, 1), (-1, 1), 1), ((-1, 3, -3, 1), (0, 1), (1, 1), 1),
        ]
        for row, low, high, many in examples:
            with self.subTest(row=row, low=low, high=high):
                self.assertEqual(self.count(row, low, high), many)

    def test_rows_of_one_entry(self):
        for entry in (1, -1, 7, -10 ** 30):
            self.assertEqual(self.count((entry,), (-10 ** 9, 1), (10 ** 9, 1)), 0)

    def test_known_roots_with_ends_at_them_and_between_them(self):
        for roots in KNOWN:
            told = real_roots(roots)
            ends = sorted(set(told) | {root + Fraction(1, 2003) for root in told} | {Fraction(-9), Fraction(0)})
            for factor in (1, -6):
                row = row_of(roots, factor)
                for low, high in product(ends, ends):
                    if low < high:
                        many = sum(1 for root in told if low < root <= high)
                        self.assertEqual(self.count(row, exact(low), exact(high)), many, (roots, low, high))

    def test_rows_with_zeros_between_their_entries(self):
        for order in range(1, 13):
            above = (-1,) + (0,) * (order - 1) + (1,)
            self.assertEqual(self.count(above, (-2, 1), (2, 1)), 1 if order % 2 else 2)
            self.assertEqual(self.count(above, (-1, 1), (1, 1)), 1)
            self.assertEqual(self.count(above, (1, 1), (2, 1)), 0)
            below = (1,) + (0,) * (order - 1) + (1,)
            self.assertEqual(self.count(below, (-2, 1), (2, 1)), 1 if order % 2 else 0)

    def test_large_integers_with_the_time_that_they_need(self):
        shift = Fraction(1, 10 ** 60)
        roots = [(Fraction(k, 3) + k * k * shift, 0) for k in range(6)] + [(Fraction(k, 3), 0) for k in range(6)]
        row = row_of(roots, 10 ** 40 + 1)
        for k in range(1, 6):
            found, needed = timed(self.count, row, (k, 3), exact(Fraction(k, 3) + k * k * shift))
            self.assertEqual(found, 1)
            self.assertEqual(self.count(row, exact(Fraction(k, 3) - shift), exact(Fraction(k, 3) + 40 * shift)), 2)
            self.assertLess(needed, 2)

    def test_refused_just_if_low_is_not_less_than_high(self):
        ends = [(-1, 1), (-1, 3), (0, 1), (1, 3), (2, 5), (1, 2), (7, 1)]
        for row in ((5,), (0, 1), (-2, 0, 1), (1, 0, 1)):
            for low, high in product(ends, ends):
                if Fraction(*low) < Fraction(*high):
                    real_count(row, low, high)
                else:
                    with self.subTest(row=row, low=low, high=high), self.assertRaises(InvalidBox):
                        real_count(row, low, high)


class Intervals(unittest.TestCase):
    def intervals(self, row, width):
        """The intervals, behind a check of all that can be told without the roots."""
        found = real_intervals(row, width)
        self.assertIs(type(found), list)
        for interval in found:
            self.assertTrue(type(interval) is tuple and len(interval) == 2 and all(map(is_fraction, interval)))
        pairs = [(Fraction(*low), Fraction(*high)) for low, high in found]
        self.assertTrue(all(low < high and high - low <= Fraction(*width) for low, high in pairs))
        self.assertTrue(all(before[1] <= behind[0] for before, behind in zip(pairs, pairs[1:])))
        return pairs

    def check(self, roots, width, factor=1):
        pairs = self.intervals(row_of(roots, factor), width)
        told = real_roots(roots)
        # Both ascend, so each interval has to have the root at the same place.
        self.assertEqual(len(pairs), len(told), (roots, width))
        for (low, high), root in zip(pairs, told):
            self.assertTrue(low < root <= high, (roots, width, root))

    def test_known_roots(self):
        for roots in KNOWN:
            for width in ((1, 1), (1, 2), (1, 3), (2, 7), (100, 1), (1, 10 ** 9), (10 ** 30, 1), (1, 10 ** 30)):
                self.check(roots, width)
                self.check(roots, width, -30)

    def test_no_roots(self):
        for row in ((1,), (-7,), (1, 0, 1), (1, 1, 1), (1, 0, 0, 0, 1), (5, 0, 4, 0, 1)):
            self.assertEqual(real_intervals(row, (1, 10)), [])

    def test_roots_that_are_no_fractions(self):
        for n in (2, 3, 5, 10 ** 20 + 39):
            for width in ((1, 1), (1, 1000), (1, 10 ** 40)):
                pairs = self.intervals((-n, 0, 1), width)
                self.assertEqual(len(pairs), 2)
                (a, b), (c, d) = pairs
                self.assertTrue(a < b < 0 < c < d)
                self.assertTrue(a * a > n >= b * b and c * c < n <= d * d)

    def test_roots_that_lie_close_together(self):
        for gap in (Fraction(1, 2), Fraction(1, 1000), Fraction(1, 10 ** 20), Fraction(1, 2 ** 150)):
            for root in (Fraction(0), Fraction(1), Fraction(1, 3), Fraction(-5, 8)):
                for width in ((1, 1), (1, 10 ** 6)):
                    self.check([(root, 0), (root + gap, 0)], width)
                    self.check([(root - gap, 0), (root, 0), (root + gap, 0), (root, gap)], width)

    def test_roots_at_all_places_where_a_division_would_meet(self):
        for parts in (1, 2, 4, 8, 3, 5):
            roots = [(Fraction(k, parts), 0) for k in range(-6, 6)]
            for width in ((1, 1), (1, 4), (1, 64), (1, 3 ** 20)):
                self.check(roots, width)
                self.check(roots[::3], width)

    def test_all_twelve_roots_are_real(self):
        row = chebyshev(12)
        self.assertEqual((row[0], row[-1], len(row)), (1, 2 ** 11, 13))
        for width in ((1, 1), (1, 100), (1, 10 ** 25)):
            pairs = self.intervals(row, width)
            self.assertEqual(len(pairs), 12)
            for low, high in pairs:
                self.assertEqual(real_count(row, exact(low), exact(high)), 1)

    def test_rows_without_known_roots(self):
        choose = random.Random(7).randrange
        seen = set()
        for many in [2, 3, 5, 8, 13] * 6:
            row = [choose(-20, 21) for _ in range(many - 1)] + [choose(1, 9)]
            near = sorted(z.real for z in near_roots(row) if abs(z.imag) < 1e-7)
            pairs = self.intervals(tuple(row), (1, 1000))
            self.assertEqual(len(pairs), len(near), row)
            for (low, high), root in zip(pairs, near):
                self.assertTrue(low - Fraction(1, 10 ** 6) <= root <= high + Fraction(1, 10 ** 6), (row, root))
            seen.add(len(pairs))
        self.assertGreaterEqual(len(seen), 3)

    def test_thirteen_large_entries_and_small_widths_with_the_time_that_they_need(self):
        choose = random.Random(3).randrange
        rows = [
            row_of([(Fraction(k, 3) + Fraction(choose(10 ** 30), 10 ** 40), 0) for k in range(12)], 10 ** 50 + 7),
            tuple(choose(-10 ** 100, 10 ** 100) for _ in range(13)),
            tuple(choose(-10 ** 100, 10 ** 100) for _ in range(12)) + (1,),
            (-2, 4 * 10 ** 15, -2 * 10 ** 30) + (0,) * 9 + (1,),
        ]
        for row in rows:
            for width in ((1, 10), (1, 10 ** 12), (1, 10 ** 60)):
                pairs, needed = timed(self.intervals, row, width)
                self.assertTrue(all(real_count(row, exact(low), exact(high)) == 1 for low, high in pairs))
                whole = (10 ** 130, 1)
                self.assertEqual(real_count(row, (-whole[0], 1), whole), len(pairs))
                self.assertLess(needed, 5)

    def test_refused_just_if_the_width_is_not_above_0(self):
        for row in ((5,), (0, 1), (-2, 0, 1), (1, 0, 1)):
            for width in ((0, 1), (-1, 1), (-1, 10 ** 9), (-7, 2)):
                with self.subTest(row=row, width=width), self.assertRaises(InvalidBox):
                    real_intervals(row, width)
            for width in ((1, 10 ** 9), (1, 1), (7, 2)):
                real_intervals(row, width)

    def test_a_new_list_each_time_and_the_same_for_equal_arguments(self):
        for roots in KNOWN:
            row = row_of(roots)
            first = real_intervals(row, (1, 5))
            second = real_intervals(tuple(list(row)), (1, 5))
            self.assertEqual(first, second)
            self.assertIsNot(first, second)
            first.append("more")
            self.assertEqual(real_intervals(row, (1, 5)), second)


if __name__ == "__main__":
    unittest.main()
