"""Point 21, of areas: S with the slope t, or that there is none."""

import unittest
from fractions import Fraction

from paperwright.areas import area
from paperwright.divisors import bare_parts
from paperwright.pieces import quotient_of
from paperwright.rows import row_minus, row_moved, row_plus, row_times, slope
from reference import owned, random_row, row_of, source
from test_pieces import NOUGHT, ONE, PARTS, is_quotient, power, quotient_plus, random_quotient


def rise(found):
    """The slope of a quotient, as a quotient."""
    top, bottom = found
    above = row_minus(row_times(slope(top), bottom), row_times(top, slope(bottom)))
    return quotient_of(above, row_times(bottom, bottom))


class AreaTest(unittest.TestCase):
    def holds(self, quotient):
        told = area(quotient)
        self.assertIs(type(told), tuple)
        self.assertTrue(is_quotient(told[1]))
        if told[0] is True:
            self.assertEqual(len(told), 2)
            self.assertEqual(rise(told[1]), quotient)
        else:
            self.assertIs(told[0], False)
            self.assertEqual(len(told), 3)
            rest = told[2]
            self.assertTrue(is_quotient(rest))
            self.assertTrue(0 < len(rest[0]) < len(rest[1]))
            self.assertEqual(bare_parts(rest[1]), [(rest[1], 1)])
            self.assertEqual(quotient_plus(rise(told[1]), rest), quotient)
        return told[0]

    def test_rows_have_areas(self):
        self.assertEqual(area(NOUGHT)[0], True)
        self.assertTrue(self.holds(NOUGHT))
        self.assertEqual(len(area((ONE, ONE))[1][0]), 2)
        chance = source(101)
        for degree in range(10):
            self.assertTrue(self.holds((row_of(*[0] * degree, 1), ONE)))
            self.assertTrue(self.holds((random_row(chance, degree, 10 ** 6, 9), ONE)))

    def test_known_ones(self):
        self.assertEqual(area(quotient_of(ONE, row_of(0, 0, 1))), (True, (row_of(-1), row_of(0, 1))))
        self.assertTrue(self.holds(quotient_of(row_of(0, 2), power(row_of(1, 0, 1), 2))))
        self.assertTrue(self.holds(quotient_of(row_of(1, 0, -1), power(row_of(1, 0, 1), 2))))
        self.assertFalse(self.holds((ONE, row_of(0, 1))))
        self.assertFalse(self.holds((ONE, row_of(1, 0, 1))))
        self.assertFalse(self.holds(quotient_of(ONE, power(row_of(1, 0, 1), 2))))
        self.assertFalse(self.holds(quotient_of(row_of(0, 2), row_of(1, 0, 1))))
        self.assertFalse(self.holds(quotient_of(row_of(0, 0, 0, 0, 1), row_of(1, 1))))
        self.assertFalse(self.holds(quotient_of(ONE, row_of(0, 1, 1))))
        self.assertFalse(self.holds(quotient_of(row_of(1, 1), row_of(0, 0, 1))))

    def test_a_part_many_times(self):
        for part in PARTS:
            for often in range(1, 10):
                if often * (len(part) - 1) <= 9:
                    bottom = power(row_of(*part), often)
                    self.assertEqual(self.holds(quotient_of(ONE, bottom)), len(part) == 2 and often > 1)
                    self.assertEqual(self.holds(quotient_of(slope(row_of(*part)), bottom)), often > 1)

    def test_slopes_have_areas(self):
        chance = source(102)
        for _ in range(60):
            self.assertTrue(self.holds(rise(random_quotient(chance, 4, 9))))

    def test_slopes_and_more_have_none(self):
        chance = source(103)
        for _ in range(20):
            asked = rise(random_quotient(chance, 4, 9))
            for more in ((ONE, row_of(0, 1)), (row_of(0, 1), row_of(1, 0, 1)), (row_of(3, 1), row_of(-2, 0, 0, 1))):
                self.assertFalse(self.holds(quotient_plus(asked, more)))

    def test_any_quotients(self):
        chance = source(104)
        for _ in range(80):
            self.holds(random_quotient(chance, 9, 20))

    def test_parts_that_are_far_moves_of_one_another_are_not_refused(self):
        for first in (row_of(0, 1), row_of(1, 2), row_of(1, 0, 1)):
            for way in (1, 20, 21, 1000, -10 ** 6):
                further = row_moved(first, (way, 1))
                both = row_times(first, further)
                self.assertFalse(self.holds(quotient_of(ONE, both)))
                self.assertTrue(self.holds(rise(quotient_of(row_of(1, 3), both))))
                self.assertFalse(self.holds(quotient_of(ONE, power(both, 2))))

    def test_greatest_sizes(self):
        chance = source(105)
        for _ in range(10):
            self.holds(random_quotient(chance, 9, 10 ** 6))
        self.holds(quotient_of(random_row(chance, 9, 10 ** 6, 5), random_row(chance, 9, 10 ** 6, 5)))
        self.holds(quotient_of(random_row(chance, 9, 10 ** 6, 1), power(row_of(-999999, 1000000), 9)))
        self.holds(quotient_of(random_row(chance, 9, 10 ** 6, 1), power(row_of(7, 3, 0, Fraction(5, 2)), 3)))

    def test_what_is_told_may_be_asked(self):
        told = area(quotient_of(row_of(5, 4, 3, 2, 1), power(row_of(1, 0, 1), 3)))
        self.assertFalse(told[0])
        self.holds(told[1])
        self.holds(told[2])
        self.assertTrue(self.holds(rise(told[1])))
        self.assertEqual(row_plus(told[2][0], []), told[2][0])

    def test_nothing_handed_in_is_changed_and_all_told_is_new(self):
        for quotient in (
            NOUGHT, (row_of(0, 0, 1), ONE), quotient_of(ONE, row_of(0, 1, 1)), quotient_of(ONE, row_of(0, 0, 1)),
            quotient_of(row_of(0, 0, 1), row_of(0, 2, 3, 1)), quotient_of(ONE, power(row_of(1, 0, 1), 2)),
        ):
            owned(self, area, quotient)


if __name__ == "__main__":
    unittest.main()
