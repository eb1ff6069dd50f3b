"""Point 19: sums, products and quotients of roots."""

import unittest
from fractions import Fraction

from paperwright.roots import order, root_of, roots_of
from paperwright.rootsums import joined, product_row, root_minus, root_over, root_plus, root_times, sum_row
from paperwright.fractions import plus, times
from paperwright.rows import divided
from paperwright.splitting import wholeness
from paperwright.sturm import count
from reference import is_row, owned, random_row, refused, row_of, source, to_fraction
from test_roots import NO_ROOTS, ROOT_2, ends, is_root

ROOTS = [
    root_of((0, 1)), root_of((1, 1)), root_of((-2, 3)), ROOT_2, ([-2, 0, 1], 0), ([-1, -1, 1], 0), ([-1, -1, 1], 1),
    ([-3, 0, 1], 0), ([-2, 0, 0, 1], 0), ([1, -3, 0, 1], 0), ([1, -3, 0, 1], 1), ([1, -3, 0, 1], 2),
]
ONE, NOUGHT = root_of((1, 1)), root_of((0, 1))


def degree(root):
    return len(root[0]) - 1


def spread(one, other, join):
    numbers = [join(a, b) for a in ends(one) for b in ends(other)]
    return (min(numbers), max(numbers))


class RootSumsTest(unittest.TestCase):
    def lies(self, told, low, high):
        """The told root can't be told from what it should be, to some forty places."""
        self.assertTrue(is_root(told))
        least, most = ends(told)
        self.assertLessEqual(least, high)
        self.assertLessEqual(low, most)

    def holds(self, one, other):
        total, product = root_plus(one, other), root_times(one, other)
        self.lies(total, *spread(one, other, lambda a, b: a + b))
        self.lies(product, *spread(one, other, lambda a, b: a * b))
        self.assertEqual(total, root_plus(other, one))
        self.assertEqual(product, root_times(other, one))
        return (total, product)

    def test_known_ones(self):
        self.assertEqual(root_plus(ROOT_2, ([-3, 0, 1], 1)), ([1, 0, -10, 0, 1], 3))
        self.assertEqual(root_times(ROOT_2, ([-3, 0, 1], 1)), ([-6, 0, 1], 1))
        self.assertEqual(root_plus(ROOT_2, ROOT_2), ([-8, 0, 1], 1))
        self.assertEqual(root_times(ROOT_2, ROOT_2), ([-2, 1], 0))
        self.assertEqual(root_plus(ROOT_2, ([-2, 0, 1], 0)), ([0, 1], 0))
        self.assertEqual(root_plus(([-1, -1, 1], 0), ([-1, -1, 1], 1)), ([-1, 1], 0))
        self.assertEqual(root_times(([-1, -1, 1], 0), ([-1, -1, 1], 1)), ([1, 1], 0))
        self.assertEqual(root_times(NOUGHT, ROOT_2), NOUGHT)
        self.assertEqual(root_times(NOUGHT, NOUGHT), NOUGHT)
        self.assertEqual(root_times(([-2, 0, 0, 1], 0), ([-4, 0, 0, 1], 0)), ([-2, 1], 0))
        self.assertEqual(root_plus(root_of((1, 2)), root_of((1, 3))), ([-5, 6], 0))
        self.assertEqual(root_times(root_of((1, 2)), root_of((-2, 3))), ([1, 3], 0))

    def test_all_pairs(self):
        for one in ROOTS:
            for other in ROOTS:
                if degree(one) * degree(other) <= 9:
                    self.holds(one, other)

    def test_laws(self):
        for one in ROOTS:
            self.assertEqual(root_plus(one, NOUGHT), one)
            self.assertEqual(root_times(one, ONE), one)
            self.assertEqual(root_minus(root_minus(one)), one)
            self.assertEqual(root_plus(one, root_minus(one)), NOUGHT)
            if one != NOUGHT:
                self.assertEqual(root_times(one, root_over(one)), ONE)
                self.assertEqual(root_over(root_over(one)), one)

    def test_greatest_degrees(self):
        nine = ([-5, 0, 1, 0, 0, 0, 0, 0, 0, 2], 0)
        for other in (root_of((1, 1)), root_of((-10 ** 30, 10 ** 30 - 1)), root_of((1, 10 ** 30))):
            self.holds(nine, other)
        self.holds(([-2, 0, 0, 1], 0), ([-3, 1, 0, 1], 0))
        self.holds(([-3, 1, 0, 0, 1], 1), ROOT_2)

    def test_greatest_numbers(self):
        chance = source(71)
        tried = 0
        while tried < 3:
            rows = [[chance.randint(-10 ** 30, 10 ** 30) for _ in range(3)] + [10 ** 30 - 57] for _ in range(2)]
            if all(wholeness(row) is not None for row in rows):
                tried += 1
                self.holds((rows[0], 0), (rows[1], 0))

    def test_sums_that_lie_very_close(self):
        near = 10 ** 15
        total, product = self.holds(ROOT_2, ([-2 * near, 0, near - 1], 0))
        self.assertEqual(order(total, NOUGHT), -1)
        self.assertEqual(order(product, root_of((-2, 1))), -1)

    def test_minus_and_over(self):
        chance = source(72)
        roots = [root for _ in range(12) for root, often in roots_of(random_row(chance, 5, 5, 2))] + ROOTS
        for root in roots:
            low, high = ends(root)
            self.lies(root_minus(root), -high, -low)
            if root != NOUGHT:
                self.assertGreater(low * high, 0)
                self.lies(root_over(root), min(1 / low, 1 / high), max(1 / low, 1 / high))

    def test_known_minus_and_over(self):
        self.assertEqual(root_minus(NOUGHT), NOUGHT)
        self.assertEqual(root_minus(root_of((2, 3))), root_of((-2, 3)))
        self.assertEqual(root_minus(([1, -3, 0, 1], 0)), ([-1, -3, 0, 1], 2))
        self.assertEqual(root_over(root_of((-2, 3))), root_of((-3, 2)))
        self.assertEqual(root_over(([-1, -1, 1], 0)), ([-1, 1, 1], 0))
        self.assertEqual(root_over(([-1, -1, 1], 1)), ([-1, 1, 1], 1))
        self.assertEqual([root_over(([1, -3, 0, 1], place))[1] for place in range(3)], [0, 2, 1])
        self.assertEqual([root_over(([-1, -3, 0, 1], place))[1] for place in range(3)], [1, 0, 2])
        self.assertEqual([root_over(([1, 0, -10, 0, 1], place))[1] for place in range(4)], [1, 0, 3, 2])
        self.assertEqual(root_over(([1, 10 ** 30], 0)), ([10 ** 30, 1], 0))

    def test_1_over_0_is_refused(self):
        refused(self, "NoNumber", root_over, NOUGHT)

    def test_no_roots_are_refused(self):
        for root in NO_ROOTS:
            for call in (root_plus, root_times):
                refused(self, "NoRoot", call, root, ONE)
                refused(self, "NoRoot", call, ONE, root)
            refused(self, "NoRoot", root_minus, root)
            refused(self, "NoRoot", root_over, root)

    def test_nothing_handed_in_is_changed_and_all_told_is_new(self):
        for root in ROOTS[1:]:
            owned(self, root_minus, root)
            owned(self, root_over, root)
            for call in (root_plus, root_times):
                owned(self, call, root, NOUGHT)
                owned(self, call, root, ONE)
                owned(self, call, ONE, root)
        owned(self, root_plus, ROOT_2, ROOT_2)


class JoinedTest(unittest.TestCase):
    """What a paper of a sum or product needs."""

    def holds(self, one, other, row_for, join):
        root, row, stretches = joined(one, other, row_for, join)
        self.assertTrue(is_row(row))
        self.assertEqual(len(row) - 1, degree(one) * degree(other))
        self.assertEqual(divided(row, row_of(*root[0]))[1], [])
        low, high = stretches[2]
        self.assertEqual(count(row, low, high), 1)
        for (whole, place), (least, most) in zip((one, other, root), stretches):
            self.assertEqual(count(row_of(*whole), (-10 ** 70, 1), least), place)
            self.assertEqual(count(row_of(*whole), (-10 ** 70, 1), most), place + 1)
        for end in stretches[0]:
            for further in stretches[1]:
                number = to_fraction(join(end, further))
                self.assertTrue(to_fraction(low) < number <= to_fraction(high))

    def test_all_pairs(self):
        for one in ROOTS:
            for other in ROOTS:
                if degree(one) * degree(other) <= 6:
                    self.holds(one, other, sum_row, plus)
                    self.holds(one, other, product_row, times)

    def test_rows(self):
        self.assertEqual(sum_row([-2, 0, 1], [-3, 0, 1]), row_of(1, 0, -10, 0, 1))
        self.assertEqual(product_row([-2, 0, 1], [-3, 0, 1]), row_of(36, 0, -12, 0, 1))
        self.assertEqual(sum_row([-1, 2], [-1, 3]), row_of(Fraction(-5, 6), 1))
        self.assertEqual(product_row([0, 1], [-2, 0, 1]), row_of(0, 0, 1))
        self.assertEqual(product_row([1, 0, 1], [-1, 1]), row_of(1, 0, 1))


if __name__ == "__main__":
    unittest.main()
