"""Point 14: whole rows."""

import unittest
from fractions import Fraction

from paperwright.rows import row_times
from paperwright.wholerows import whole_row
from paperwork import is_whole
from reference import is_fraction, owned, random_row, refused, row_of, source

ROWS = [
    row_of(0, 1), row_of(0, -1), row_of(1, 2), row_of(2, 4), row_of(-2, -4), row_of(Fraction(1, 2), Fraction(-1, 3)),
    row_of(0, 0, 6), row_of(Fraction(3, 4), 0, Fraction(9, 10)), row_of(10 ** 30, 10 ** 30), row_of(0, 0, Fraction(-5, 7)),
]


class WholeRowTest(unittest.TestCase):
    def holds(self, row):
        told = whole_row(row)
        self.assertIs(type(told), tuple)
        number, whole = told
        self.assertTrue(is_fraction(number))
        self.assertTrue(is_whole(whole))
        self.assertEqual(row_times([number], row_of(*whole)), row)
        return told

    def test_edges(self):
        for row in ROWS:
            self.holds(row)

    def test_known_ones(self):
        self.assertEqual(whole_row(row_of(2, 4)), ((2, 1), [1, 2]))
        self.assertEqual(whole_row(row_of(2, -4)), ((-2, 1), [-1, 2]))
        self.assertEqual(whole_row(row_of(Fraction(1, 2), Fraction(-1, 3))), ((-1, 6), [-3, 2]))
        self.assertEqual(whole_row(row_of(0, 0, Fraction(5, 7))), ((5, 7), [0, 0, 1]))

    def test_any_rows(self):
        chance = source(21)
        for degree in range(1, 21):
            for size in (3, 10 ** 6, 10 ** 30):
                self.holds(random_row(chance, degree, size, size))

    def test_rows_of_degree_0_are_refused(self):
        for row in ([], row_of(1), row_of(-2), row_of(Fraction(1, 3))):
            refused(self, "NoRow", whole_row, row)

    def test_nothing_handed_in_is_changed_and_all_told_is_new(self):
        for row in ROWS:
            owned(self, whole_row, row)


if __name__ == "__main__":
    unittest.main()
