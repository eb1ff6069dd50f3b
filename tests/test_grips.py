"""The grip on a root: what the order, signs and stretches of point 19 rest on."""

import unittest

from paperwright.grips import Grip, grip_of
from reference import refused, to_fraction
from test_roots import NO_ROOTS, ROOT_2


class GripTest(unittest.TestCase):
    def test_halving_keeps_the_root(self):
        grip = Grip([-2, 0, 1], (1, 1), (3, 2))
        for _ in range(40):
            low, high = map(to_fraction, grip.stretch())
            self.assertTrue(low ** 2 < 2 < high ** 2)
            grip.halve()
            least, most = map(to_fraction, grip.stretch())
            self.assertEqual(2 * (most - least), high - low)

    def test_a_root_at_the_high_end_stays_there(self):
        for low, high in (((0, 1), (1, 1)), ((0, 1), (2, 1)), ((0, 1), (4, 1))):
            grip = Grip([-1, 1], low, high)
            grip.narrow(10)
            self.assertEqual(grip.stretch()[1], (1, 1))

    def test_signs_all_over_the_stretch(self):
        grip = Grip([-2, 0, 1], (0, 1), (4, 1))
        self.assertEqual(grip.sign_of([1, 1]), 1)
        self.assertEqual(grip.sign_of([-9, 1]), -1)
        self.assertEqual(grip.sign_of([-3]), -1)
        self.assertEqual(grip.sign_of([5]), 1)

    def test_a_sign_is_not_told_where_the_row_is_0_at_an_end_or_between(self):
        grip = Grip([-2, 0, 1], (0, 1), (4, 1))
        for numbers in ([0, 1], [0, -1], [-4, 1], [4, -1], [-1, 1], [0, 4, -1], [1, -2, 1]):
            self.assertEqual(grip.sign_of(numbers), 0)

    def test_no_roots_are_refused(self):
        self.assertEqual(grip_of(ROOT_2).numbers, [-2, 0, 1])
        for root in NO_ROOTS:
            refused(self, "NoRoot", grip_of, root)


if __name__ == "__main__":
    unittest.main()
