"""Point 17: stretches of rows."""

import unittest
from fractions import Fraction

from paperwright.rows import row_times
from paperwright.stretches import stretches
from paperwright.sturm import count
from reference import is_fraction, owned, random_row, refused, row_of, source, to_fraction
from test_sturm import BARE, through

FAR = 10 ** 70


class StretchesTest(unittest.TestCase):
    def holds(self, row, many=None):
        told = stretches(row)
        self.assertIs(type(told), list)
        end = None
        for stretch in told:
            self.assertIs(type(stretch), tuple)
            low, high = stretch
            self.assertTrue(is_fraction(low) and is_fraction(high))
            self.assertLess(to_fraction(low), to_fraction(high))
            self.assertTrue(end is None or end <= to_fraction(low))
            self.assertEqual(count(row, low, high), 1)
            end = to_fraction(high)
        self.assertEqual(len(told), count(row, (-FAR, 1), (FAR, 1)))
        if many is not None:
            self.assertEqual(len(told), many)

    def test_edges(self):
        for row in BARE:
            self.holds(row)
            self.holds(row_times(row, row))

    def test_none_and_one(self):
        self.assertEqual(stretches(row_of(1, 0, 1)), [])
        self.assertEqual(stretches(row_of(1, 0, 2, 0, 1)), [])
        self.holds(row_of(0, 1), 1)
        self.holds(row_of(0, 0, 1), 1)
        self.holds(row_of(-2, 0, 0, 1), 1)
        self.holds(row_of(10 ** 6, Fraction(1, 1000)), 1)

    def test_roots_at_ends(self):
        self.holds(through(range(-4, 5)), 9)
        self.holds(through([0, 1, 2, 4, 8, 16, 32, 64]), 8)
        self.holds(through([Fraction(n, 8) for n in range(-4, 5)]), 9)
        self.holds(through([0, 0, 0, 1, 1, -1]), 3)

    def test_roots_that_lie_very_close(self):
        square = row_times(row_of(-1, 1000), row_of(-1, 1000))
        close = [(-top, bottom) for top, bottom in square] + row_of(0, 0, 0, 0, 0, 0, 1)
        self.holds(close, 3)
        self.holds(through([Fraction(1, 3), Fraction(1, 3) + Fraction(1, 10 ** 60)]), 2)

    def test_any_rows(self):
        chance = source(51)
        for degree in range(1, 10):
            for top, bottom in ((3, 1), (5, 4), (10 ** 6, 10)):
                self.holds(random_row(chance, degree, top, bottom))

    def test_many_roots(self):
        chance = source(52)
        for _ in range(20):
            roots = [Fraction(chance.randint(-30, 30), chance.randint(1, 6)) for _ in range(9)]
            self.holds(through(roots, Fraction(-1, 3)), len(set(roots)))

    def test_long_numbers(self):
        chance = source(53)
        self.holds(random_row(chance, 9, 10 ** 30, 10 ** 30))
        self.holds(random_row(chance, 12, 10 ** 30, 1))

    def test_degree_0_has_none(self):
        self.assertEqual(stretches(row_of(7)), [])

    def test_the_row_0_is_refused(self):
        refused(self, "NoRow", stretches, [])

    def test_nothing_handed_in_is_changed_and_all_told_is_new(self):
        for row in BARE + [row_of(7), through([1, 2, 3])]:
            owned(self, stretches, row)


if __name__ == "__main__":
    unittest.main()
