"""Point 4: fractions."""

import unittest
from fractions import Fraction

from paperwright.fractions import fraction, minus, over, plus, power, times, under
from reference import from_fraction, is_fraction, refused, source, to_fraction

EDGES = [(0, 1), (1, 1), (-1, 1), (2, 3), (-2, 3), (1, 6), (-5, 6), (7, 1), (10 ** 30, 1), (-(10 ** 30), 10 ** 30 - 1),
         (10 ** 30 - 1, 10 ** 30), (1, 10 ** 30), (3, 10 ** 30), (10 ** 30 + 57, 10 ** 29 - 1)]


class FractionTest(unittest.TestCase):
    def test_lowest_terms_with_a_bottom_above_0(self):
        self.assertEqual(fraction(6, 4), (3, 2))
        self.assertEqual(fraction(-6, 4), (-3, 2))
        self.assertEqual(fraction(6, -4), (-3, 2))
        self.assertEqual(fraction(-6, -4), (3, 2))
        self.assertEqual(fraction(0, 9), (0, 1))
        self.assertEqual(fraction(0, -9), (0, 1))
        self.assertEqual(fraction(9, 9), (1, 1))
        self.assertEqual(fraction(5, 1), (5, 1))

    def test_long_numbers(self):
        self.assertEqual(fraction(10 ** 40, 4 * 10 ** 35), (25000, 1))
        self.assertEqual(fraction(3 ** 80, -(3 ** 78) * 7), (-9, 7))

    def test_all_small_ones(self):
        for top in range(-12, 13):
            for bottom in range(-12, 13):
                if bottom:
                    told = fraction(top, bottom)
                    self.assertTrue(is_fraction(told))
                    self.assertEqual(to_fraction(told), Fraction(top, bottom))

    def test_a_bottom_of_0_is_refused(self):
        for top in (0, 1, -1, 10 ** 30):
            refused(self, "NoNumber", fraction, top, 0)


class ReckoningTest(unittest.TestCase):
    def agrees(self, one, other):
        a, b = to_fraction(one), to_fraction(other)
        for told, expected in ((plus(one, other), a + b), (minus(one, other), a - b), (times(one, other), a * b)):
            self.assertTrue(is_fraction(told), told)
            self.assertEqual(told, from_fraction(expected))
        self.assertIs(under(one, other), a < b)
        if b:
            self.assertTrue(is_fraction(over(one, other)))
            self.assertEqual(over(one, other), from_fraction(a / b))

    def test_small_ones(self):
        small = sorted({fraction(top, bottom) for top in range(-6, 7) for bottom in range(1, 7)})
        for one in small:
            for other in small:
                self.agrees(one, other)

    def test_edges(self):
        for one in EDGES:
            for other in EDGES:
                self.agrees(one, other)

    def test_long_ones(self):
        chance = source(6)
        for figures in (30, 60, 300):
            for _ in range(40):
                parts = [chance.randint(-10 ** figures, 10 ** figures) for _ in range(4)]
                shared = chance.randint(1, 10 ** 9)
                self.agrees(fraction(parts[0], parts[1] * shared or 1), fraction(parts[2], parts[3] * shared or 1))

    def test_division_by_0_is_refused(self):
        for one in EDGES:
            refused(self, "NoNumber", over, one, (0, 1))

    def test_powers(self):
        for one in EDGES:
            for exponent in range(13):
                self.assertEqual(power(one, exponent), from_fraction(to_fraction(one) ** exponent))


if __name__ == "__main__":
    unittest.main()
