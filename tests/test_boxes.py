"""Points 28, 30 and 31, and spinfield/boxes.py."""

import random
import unittest
from fractions import Fraction
from itertools import combinations, product

from helper import LARGEST_PAIRS, all_roots, exact, is_fraction, is_integer, largest, near_roots, row_of, timed
from spinfield.boxes import all_on_circle, box_count, circle_count, root_boxes
from spinfield.errors import InvalidBox
from spinfield.polynomials import row_at
from spinfield.spins import Spins, sum_by_states, without_field

THIRD, HALF = Fraction(1, 3), Fraction(1, 2)

# Lists of roots as row_of has them: repeated ones, ones with the same parts, and ones that lie close together.
KNOWN = [
    [],
    [(0, 0)],
    [(0, 0)] * 12,
    [(HALF, 0)],
    [(0, 1)],
    [(0, 1)] * 6,
    [(1, 1), (1, 0), (-1, 0), (-1, 1)],
    [(1, 1), (1, 1), (1, 0), (1, 0), (1, 0), (0, 0)],
    [(THIRD, THIRD), (THIRD, -1), (THIRD, 2), (THIRD, 0), (THIRD, HALF)],
    [(-1, HALF), (0, HALF), (THIRD, HALF), (HALF, HALF), (2, HALF)],
    [(k, 0) for k in range(-6, 6)],
    [(Fraction(k, 2), 1) for k in range(6)],
    [(0, k + 1) for k in range(6)],
    [(HALF, 0), (HALF + Fraction(1, 10 ** 9), 0), (HALF, Fraction(1, 10 ** 9)), (-HALF, 0)],
    [(10 ** 12, 0), (0, 1), (0, Fraction(1, 10 ** 12)), (-10 ** 12, 10 ** 12), (THIRD, 0)],
    [(0, 0), (0, 1), (0, 2), (1, 0), (-1, 1)],
]


def position(z, box):
    """1 if a number is inside a box, 0 if it is on its border, otherwise -1, straight from point 30."""
    left, right, low, high = box
    if left < z[0] < right and low < z[1] < high:
        return 1
    return 0 if left <= z[0] <= right and low <= z[1] <= high else -1


def told_count(roots, box):
    """What box_count has to return."""
    positions = [position(z, box) for z in all_roots(roots)]
    return None if 0 in positions else positions.count(1)


class Counts(unittest.TestCase):
    def count(self, row, box):
        found = box_count(row, tuple(exact(side) for side in box))
        self.assertTrue(found is None or is_integer(found))
        return found

    def test_of_the_interface(self):
        self.assertEqual(box_count((1, 0, 1), ((-1, 2), (1, 2), (0, 1), (2, 1))), 1)

    def test_examples(self):
        circle = (-1, 0, 0, 0, 1)
        examples = [
            (circle, (-2, 2, -2, 2), 4), (circle, (-HALF, HALF, -2, 2), 2), (circle, (0, 2, -HALF, HALF), 1),
            (circle, (-HALF, HALF, -HALF, HALF), 0), (circle, (0, 2, 0, 2), None), (circle, (0, 1, -2, 2), None),
            (circle, (1, 2, 0, 1), None), (circle, (-HALF, HALF, 0, 2), 1), (circle, (HALF, 2, HALF, 2), 0),
            ((2, 2, 1), (-2, 0, 0, 2), 1), ((2, 2, 1), (-1, 0, 0, 2), None), ((2, 2, 1), (-2, -1, 0, 1), None),
            ((-2, 0, 1), (0, 2, -1, 1), 1), ((-2, 0, 1), (0, 2, 0, 1), None), ((-2, 0, 1), (-2, 2, -1, 1), 2),
            ((0, 0, 1), (-1, 1, -1, 1), 1), ((0, 0, 1), (0, 1, 0, 1), None), ((0, 0, 1), (0, 1, -1, 1), None),
        ]
        for row, box, many in examples:
            with self.subTest(row=row, box=box):
                self.assertEqual(self.count(row, box), many)

    def test_rows_of_one_entry(self):
        for entry in (1, -1, 10 ** 30):
            self.assertEqual(self.count((entry,), (-9, 9, -9, 9)), 0)
            self.assertEqual(self.count((entry,), (0, HALF, 0, HALF)), 0)

    def test_a_root_at_each_place_around_a_box(self):
        # Inside, outside, on each side and at each corner.
        box = (-HALF, 1, THIRD, 2)
        for re, im in product((-1, -HALF, 0, 1, 2), (0, THIRD, 1, 2, 3)):
            for others in ([], [(0, 1)], [(-5, 5), (7, 0)], [(re, im)]):
                roots = [(re, im)] + others
                for factor in (1, -3):
                    self.assertEqual(self.count(row_of(roots, factor), box), told_count(roots, box), roots)

    def test_known_roots_and_boxes_with_sides_at_them_and_between_them(self):
        counts = []
        for roots in KNOWN:
            found = sorted(all_roots(roots))
            res = sorted({re for re, _ in found} | {Fraction(-7, 5), Fraction(22, 7)})
            ims = sorted({im for _, im in found} | {Fraction(-8, 5), Fraction(23, 7)})
            row = row_of(roots)
            boxes = list(product(combinations(res[:7], 2), combinations(ims[:7], 2)))
            for (left, right), (low, high) in boxes[::max(1, len(boxes) // 60)]:
                box = (left, right, low, high)
                counts.append(told_count(roots, box))
                self.assertEqual(self.count(row, box), counts[-1], (roots, box))
                shifted = (left - Fraction(1, 97), right + Fraction(1, 89), low - Fraction(1, 83), high + Fraction(1, 79))
                counts.append(told_count(roots, shifted))
                self.assertEqual(self.count(row, shifted), counts[-1], (roots, shifted))
        self.assertGreater(counts.count(None), 50)
        self.assertGreaterEqual(len(set(counts)), 9)

    def test_repeated_roots_count_once(self):
        row = row_of([(0, 1)] * 3 + [(1, 0)] * 4 + [(-1, 0)] * 2)
        self.assertEqual(self.count(row, (-2, 2, -2, 2)), 4)
        self.assertEqual(self.count(row, (HALF, 2, -2, 2)), 1)
        self.assertEqual(self.count(row, (-HALF, HALF, 0, 2)), 1)
        self.assertIsNone(self.count(row, (1, 2, -2, 2)))

    def test_rows_without_known_roots(self):
        choose = random.Random(11).randrange
        for many in [2, 3, 5, 8, 13] * 4:
            row = [choose(-20, 21) for _ in range(many - 1)] + [choose(1, 9)]
            near = near_roots(row)
            for _ in range(5):
                left, low = [Fraction(choose(-300, 300), 101) for _ in range(2)]
                box = (left, left + Fraction(choose(1, 400), 97), low, low + Fraction(choose(1, 400), 97))
                inside = [z for z in near if box[0] < z.real < box[1] and box[2] < z.imag < box[3]]
                self.assertEqual(self.count(tuple(row), box), len(inside), (row, box))

    def test_refused_just_if_a_side_is_empty_or_turned(self):
        sides = [(-1, 1), (0, 1), (1, 3), (1, 2)]
        for row in ((5,), (0, 1), (1, 0, 1)):
            for left, right, low, high in product(sides, repeat=4):
                box = (left, right, low, high)
                if Fraction(*left) < Fraction(*right) and Fraction(*low) < Fraction(*high):
                    box_count(row, box)
                else:
                    with self.assertRaises(InvalidBox, msg=box):
                        box_count(row, box)

    def test_large_integers_with_the_time_that_they_need(self):
        row = row_at(sum_by_states(largest(True)), (1, 10))
        self.assertGreater(max(abs(entry) for entry in row), 10 ** 100)
        found, needed = timed(box_count, row, ((-10 ** 20, 3), (10 ** 40, 7), (-5, 1), (10 ** 30, 1)))
        self.assertTrue(found is None or 0 <= found <= 12)
        self.assertLess(needed, 5)


class Boxes(unittest.TestCase):
    def boxes(self, row, width):
        """The boxes, behind a check of all that can be told without the roots."""
        found = root_boxes(row, width)
        self.assertIs(type(found), list)
        for box in found:
            self.assertTrue(type(box) is tuple and len(box) == 4 and all(map(is_fraction, box)))
        told = [tuple(Fraction(*side) for side in box) for box in found]
        for left, right, low, high in told:
            self.assertTrue(left < right and low < high)
            self.assertTrue(right - left <= Fraction(*width) and high - low <= Fraction(*width))
        for one, other in combinations(told, 2):
            across = max(one[0], other[0]) < min(one[1], other[1])
            along = max(one[2], other[2]) < min(one[3], other[3])
            self.assertFalse(across and along, (row, width, one, other))
        return told

    def check(self, roots, width, factor=1):
        boxes = self.boxes(row_of(roots, factor), width)
        left = all_roots(roots)
        self.assertEqual(len(boxes), len(left), (roots, width))
        for box in boxes:
            positions = {z: position(z, box) for z in all_roots(roots)}
            self.assertNotIn(0, positions.values(), (roots, width, box))
            inside = [z for z in positions if positions[z] == 1]
            self.assertEqual(len(inside), 1, (roots, width, box))
            left.discard(inside[0])
        self.assertEqual(left, set(), (roots, width))

    def test_known_roots(self):
        for roots in KNOWN:
            for width in ((1, 1), (1, 3), (5, 2), (1, 10 ** 7), (10 ** 30, 1), (1, 10 ** 40)):
                self.check(roots, width)
            self.check(roots, (1, 2), -30)

    def test_no_roots(self):
        for entry in (1, -1, 10 ** 40):
            self.assertEqual(root_boxes((entry,), (1, 2)), [])

    def test_roots_that_lie_close_together(self):
        for gap in (Fraction(1, 10), Fraction(1, 10 ** 6), Fraction(1, 10 ** 15)):
            for re, im in ((0, 0), (1, 0), (THIRD, 1), (-2, HALF)):
                for width in ((1, 1), (1, 10 ** 4), (1, 10 ** 18)):
                    self.check([(re, im), (re + gap, im)], width)
                    self.check([(re, im), (re, im + gap), (re + gap, im), (re - 3 * gap, im), (5, 5)], width)

    def test_roots_in_rows_and_columns(self):
        for step in (Fraction(1), Fraction(1, 4), THIRD):
            self.check([(step * k, step * m) for k in range(3) for m in (1, 2)], (1, 5))
            self.check([(step * k, step * m) for k in (-1, 1) for m in (0, 1, 2)], (1, 5))
            self.check([(step * k, 0) for k in range(-6, 6)], (1, 5))

    def test_rows_without_known_roots(self):
        choose = random.Random(5).randrange
        for many in [2, 3, 5, 8, 11, 13] * 6:
            row = tuple([choose(-20, 21) for _ in range(many - 1)] + [choose(1, 9)])
            near = near_roots(row)
            boxes = self.boxes(row, (1, 1000))
            self.assertEqual(len(boxes), many - 1)
            bit = Fraction(1, 10 ** 6)
            for left, right, low, high in boxes:
                self.assertEqual(box_count(row, tuple(map(exact, (left, right, low, high)))), 1)
                wider = (left - bit, right + bit, low - bit, high + bit)
                inside = [z for z in near if wider[0] < z.real < wider[1] and wider[2] < z.imag < wider[3]]
                self.assertEqual(len(inside), 1, (row, wider))

    def test_thirteen_entries_with_the_time_that_they_need(self):
        choose = random.Random(4).randrange
        whole = sum_by_states(largest(True))
        rows = [
            tuple(choose(-9, 10) for _ in range(12)) + (3,),
            tuple(choose(-10 ** 40, 10 ** 40) for _ in range(13)),
            tuple(choose(-10 ** 40, 10 ** 40) for _ in range(12)) + (3,),
            (-1,) + (0,) * 11 + (1,),
            # Two roots lie closer together than 10^-12.
            (-2, 4 * 10 ** 3, -2 * 10 ** 6) + (0,) * 9 + (1,),
            row_of([(k, 0) for k in range(1, 13)]),
            row_at(whole, (1, 2)),
            row_at(whole, (1, 10)),
        ]
        for row in rows:
            self.assertEqual(len(row), 13)
            for width in ((1, 1), (1, 10 ** 6), (1, 10 ** 50)):
                boxes, needed = timed(self.boxes, row, width)
                self.assertLess(needed, 5)
                self.assertEqual(len(boxes), 12)
                for box in boxes[::5]:
                    self.assertEqual(box_count(row, tuple(map(exact, box))), 1)

    def test_refused_just_if_the_width_is_not_above_0(self):
        for row in ((5,), (0, 1), (-2, 0, 1), (1, 0, 1)):
            for width in ((0, 1), (-1, 1), (-1, 10 ** 9), (-7, 2)):
                with self.subTest(row=row, width=width), self.assertRaises(InvalidBox):
                    root_boxes(row, width)
            for width in ((1, 10 ** 9), (1, 1), (7, 2)):
                root_boxes(row, width)

    def test_a_new_list_each_time_and_the_same_for_equal_arguments(self):
        for roots in KNOWN:
            row = row_of(roots)
            first = root_boxes(row, (1, 5))
            second = root_boxes(tuple(list(row)), (1, 5))
            self.assertEqual(first, second)
            self.assertIsNot(first, second)
            first.append("more")
            self.assertEqual(root_boxes(row, (1, 5)), second)


# Points of the unit circle, as row_of has them.
ON_CIRCLE = [
    (1, 0), (-1, 0), (0, 1), (Fraction(3, 5), Fraction(4, 5)), (Fraction(-5, 13), Fraction(12, 13)),
    (Fraction(20, 29), Fraction(-21, 29)),
]

OFF_CIRCLE = [
    (0, 0), (2, 0), (HALF, 0), (-2, 0), (1, 1), (HALF, HALF), (0, 2), (0, HALF), (Fraction(999, 1000), 0),
    (Fraction(3, 5), Fraction(4, 5) + Fraction(1, 10 ** 9)), (-1, Fraction(1, 10 ** 6)),
]


class Circle(unittest.TestCase):
    def check(self, roots, factor=1):
        found = all_roots(roots)
        row = row_of(roots, factor)
        many = sum(1 for re, im in found if re * re + im * im == 1)
        with self.subTest(roots=roots):
            count = circle_count(row)
            self.assertTrue(is_integer(count))
            self.assertEqual(count, many)
            self.assertIs(all_on_circle(row), many == len(found))

    def test_of_the_interface(self):
        self.assertEqual(circle_count((2, 5, 4, 5, 2)), 2)

    def test_rows_of_one_entry(self):
        for entry in (1, -1, 12):
            self.assertEqual(circle_count((entry,)), 0)
            self.assertIs(all_on_circle((entry,)), True)

    def test_single_roots(self):
        for root in ON_CIRCLE + OFF_CIRCLE:
            self.check([root])
            self.check([root, root])
            self.check([root, root, root, root, root], -7)

    def test_roots_on_it_and_elsewhere(self):
        for many in range(5):
            for on in combinations(ON_CIRCLE, many):
                self.check(list(on))
                self.check(list(on) + list(on[:1]))
                for off in OFF_CIRCLE:
                    self.check(list(on) + [off], -1)

    def test_pairs_of_reciprocals(self):
        for re, im in ((2, 0), (HALF, HALF), (0, 3), (-3, 1), (THIRD, 0)):
            size = Fraction(re) ** 2 + Fraction(im) ** 2
            pair = [(re, im), (re / size, im / size)]
            for on in ([], [(1, 0)], [(-1, 0)], [(1, 0), (-1, 0)], [(0, 1), (0, 1)], ON_CIRCLE[3:5]):
                self.check(pair + list(on))
                self.check(pair + pair + list(on))

    def test_rows_whose_roots_are_known_to_lie_there(self):
        for order in range(1, 13):
            between = (0,) * (order - 1)
            for row in ((-1,) + between + (1,), (1,) + between + (1,), (3,) + between + (-3,), (1,) * (order + 1)):
                self.assertEqual(circle_count(row), order)
                self.assertIs(all_on_circle(row), True)
            for row in ((-1,) + between + (2,), (2,) + between + (1,), (1,) + between + (-2,)):
                self.assertEqual(circle_count(row), 0)
                self.assertIs(all_on_circle(row), False)

    def test_a_row_with_all_but_two_roots_there(self):
        row = (1, 1, 0, -1, -1, -1, -1, -1, 0, 1, 1)
        self.assertEqual(circle_count(row), 8)
        self.assertIs(all_on_circle(row), False)

    def test_partition_polynomials_without_field(self):
        choose = random.Random(2).randrange
        xs = [(1, 1), (1, 2), (2, 3), (1, 10), (99, 100), (1, 1000)]
        for seed in range(40):
            count = 1 + choose(7)
            pairs = [pair for pair in combinations(range(count), 2) if choose(3)][:24]
            spins = Spins([0] * count, [(u, v, 1 + choose(9)) for u, v in pairs])
            whole = sum_by_states(spins)
            for x in xs:
                row = row_at(whole, x)
                self.assertIs(all_on_circle(row), True, (spins.edges, x))
                self.assertGreaterEqual(circle_count(row), 1)

    def test_partition_polynomials_with_negative_couplings_or_large_x_leave_it(self):
        apart = sum_by_states(Spins([0, 0], [(0, 1, -1)]))
        self.assertIs(all_on_circle(row_at(apart, (1, 2))), False)
        self.assertIs(all_on_circle(row_at(apart, (2, 1))), True)
        joined = sum_by_states(Spins([0, 0], [(0, 1, 1)]))
        self.assertIs(all_on_circle(row_at(joined, (2, 1))), False)
        self.assertIs(all_on_circle(row_at(sum_by_states(Spins([1], [])), (1, 2))), False)

    def test_the_largest_spins_with_the_time_that_they_need(self):
        ferro = Spins([0] * 12, [(u, v, 1 + k % 9) for k, (u, v) in enumerate(LARGEST_PAIRS)])
        for spins in (ferro, without_field(largest(True)), largest(True)):
            for x in ((1, 2), (1, 1000), (9998, 9999)):
                row = row_at(sum_by_states(spins), x)
                self.assertEqual(len(row), 13)
                count, needed = timed(circle_count, row)
                self.assertLess(needed, 5)
                if spins == ferro:
                    self.assertEqual(count, 12)
                told, needed = timed(all_on_circle, row)
                self.assertIs(told, count == 12)
                self.assertLess(needed, 5)


if __name__ == "__main__":
    unittest.main()
