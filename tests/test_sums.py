"""Point 21 but for its areas: sums of quotients."""

import unittest
from fractions import Fraction

from paperwright.pieces import quotient_of
from paperwright.rows import row_minus, row_moved, row_plus, row_times, row_value
from paperwright.splitting import split
from paperwright.sums import summed
from paperwright.wholerows import whole_row
from paperwork import divisor
from reference import is_row, owned, random_row, refused, row_of, source
from test_pieces import NOUGHT, ONE, is_quotient, power, quotient_plus, random_quotient

FIRSTS = (row_of(0, 1), row_of(1, 2), row_of(1, 0, 1), row_of(-2, 0, 3), row_of(-2, 0, 0, 1), row_of(Fraction(1, 2), 0, 1))


def moved(row, by):
    return row_moved(row, (by, 1))


def is_difference(found, rest, asked):
    """Whether S(x + 1) - S(x) + r = t, multiplied out. (Nothing is shortened: S may be long.)"""
    top, bottom = found
    ahead = row_minus(row_times(moved(top, 1), bottom), row_times(top, moved(bottom, 1)))
    below = row_times(moved(bottom, 1), bottom)
    left = row_plus(row_times(ahead, rest[1]), row_times(rest[0], below))
    return row_times(left, asked[1]) == row_times(asked[0], row_times(below, rest[1]))


def difference(found):
    top, bottom = found
    ahead = row_minus(row_times(moved(top, 1), bottom), row_times(top, moved(bottom, 1)))
    return quotient_of(ahead, row_times(moved(bottom, 1), bottom))


def shortened(found):
    """Whether the quotient has its form. (Of long ones by a prime: what has no common divisor by it has none.)"""
    if len(found[1]) < 20:
        return is_quotient(found)
    top, bottom = found
    prime = 10 ** 9 + 7
    rows = [[number * pow(part, -1, prime) % prime for number, part in row] for row in found]
    return is_row(top) and is_row(bottom) and bottom[-1] == (1, 1) and len(divisor(rows[1], rows[0], prime)) == 1


def apart(bottom):
    """No two unlike parts are one the other moved by a whole number."""
    parts = [part for part, often in split(bottom)[1]]
    for one in parts:
        for by in range(-60, 61):
            if by != 0 and whole_row(moved(row_of(*one), by))[1] in parts:
                return False
    return True


class SummedTest(unittest.TestCase):
    def holds(self, quotient):
        told = summed(quotient)
        self.assertIs(type(told), tuple)
        if told[0] is True:
            self.assertEqual(len(told), 2)
            rest = NOUGHT
        else:
            self.assertIs(told[0], False)
            self.assertEqual(len(told), 3)
            rest = told[2]
            self.assertTrue(is_quotient(rest))
            self.assertTrue(0 < len(rest[0]) < len(rest[1]))
            self.assertTrue(apart(rest[1]))
        self.assertTrue(shortened(told[1]))
        self.assertTrue(is_difference(told[1], rest, quotient))
        return told[0]

    def test_rows_have_sums(self):
        self.assertEqual(summed(NOUGHT)[0], True)
        self.assertEqual(len(summed((ONE, ONE))[1][0]), 2)
        self.assertTrue(self.holds(NOUGHT))
        chance = source(91)
        for degree in range(10):
            self.assertTrue(self.holds((row_of(*[0] * degree, 1), ONE)))
            self.assertTrue(self.holds((random_row(chance, degree, 10 ** 6, 1), ONE)))
        total = summed((row_of(0, 0, 1), ONE))[1][0]
        least = row_value(total, (0, 1))
        for number in range(12):
            at = row_value(total, (number, 1))
            self.assertEqual(row_minus([at], [least]), row_of(sum(n * n for n in range(number))) if number > 1 else [])

    def test_known_ones(self):
        self.assertEqual(summed(quotient_of(ONE, row_of(0, 1, 1))), (True, (row_of(-1), row_of(0, 1))))
        self.assertFalse(self.holds((ONE, row_of(0, 1))))
        self.assertFalse(self.holds((ONE, row_of(0, 0, 1))))
        self.assertFalse(self.holds((ONE, row_of(1, 0, 1))))
        self.assertTrue(self.holds(quotient_of(row_of(1, 2), power(row_of(0, 1, 1), 2))))
        self.assertFalse(self.holds(quotient_of(ONE, row_of(0, Fraction(1, 2), 1))))
        self.assertFalse(self.holds(quotient_of(row_of(0, 0, 0, 0, 1), row_of(1, 1))))

    def test_differences_have_sums(self):
        chance = source(92)
        for _ in range(60):
            self.assertTrue(self.holds(difference(random_quotient(chance, 4, 9))))

    def test_differences_and_more_have_none(self):
        chance = source(93)
        for _ in range(30):
            asked = difference(random_quotient(chance, 3, 9))
            for more in ((ONE, row_of(0, 1)), (row_of(0, 1), row_of(1, 0, 1)), (ONE, row_of(0, 0, 0, 1))):
                self.assertFalse(self.holds(quotient_plus(asked, more)))

    def test_any_quotients(self):
        chance = source(94)
        for _ in range(60):
            self.holds(random_quotient(chance, 9, 20))

    def test_parts_that_are_one_another_moved(self):
        for first in FIRSTS:
            for way in (1, 2, 7, 20):
                for often in (1, 2, 4):
                    bottom = power(row_times(first, moved(first, way)), often)
                    if len(bottom) <= 10:
                        self.assertFalse(self.holds(quotient_of(row_of(3, 1), bottom)))
                        step = quotient_of(ONE, power(first, often))
                        ahead = quotient_of(row_of(-1), power(moved(first, way), often))
                        self.assertTrue(self.holds(quotient_plus(step, ahead)))

    def test_three_parts_of_one_kind(self):
        first = row_of(0, 1)
        for ways in ((1, 2), (5, 20), (19, 20), (10, 20)):
            bottom = row_times(first, row_times(moved(first, ways[0]), moved(first, ways[1])))
            self.assertTrue(self.holds(quotient_of(ONE, bottom)))
            self.assertTrue(self.holds(quotient_of(row_of(5, 7), bottom)))
            self.assertFalse(self.holds(quotient_of(row_of(0, 0, 1), bottom)))
            self.assertFalse(self.holds(quotient_of(ONE, row_times(bottom, row_of(1, 0, 0, 1)))))

    def test_greatest_sizes(self):
        chance = source(95)
        first = row_of(-1, 3)
        for often, further in ((4, 4), (1, 8), (8, 1), (2, 7)):
            bottom = row_times(power(first, often), power(moved(first, 20), further))
            top = random_row(chance, 9, 10 ** 6, 1)
            self.assertFalse(self.holds(quotient_of(top, bottom)))
        second = row_of(1, 0, 3)
        self.assertFalse(self.holds(quotient_of(ONE, row_times(power(moved(second, 20), 3), second))))

    def test_parts_too_far_apart_are_refused(self):
        for first in FIRSTS:
            for way in (21, 22, 100, 10 ** 6):
                for ahead in (way, -way):
                    bottom = row_times(first, moved(first, ahead))
                    refused(self, "TooFar", summed, quotient_of(row_of(1, 3), bottom))
        far = row_times(row_times(row_of(0, 1), row_of(11, 1)), row_of(22, 1))
        refused(self, "TooFar", summed, quotient_of(ONE, far))
        refused(self, "TooFar", summed, quotient_of(row_of(1, 0, 0, 0, 1), power(row_of(0, 21, 1), 2)))

    def test_parts_that_are_moved_by_no_whole_number_are_not_too_far(self):
        self.assertFalse(self.holds(quotient_of(ONE, row_times(row_of(0, 1), row_of(Fraction(99, 2), 1)))))
        self.assertFalse(self.holds(quotient_of(ONE, row_times(row_of(1, 0, 1), moved(row_of(2, 0, 1), 30)))))
        self.assertFalse(self.holds(quotient_of(ONE, row_times(row_of(1, 2), row_of(70, 3)))))

    def test_nothing_handed_in_is_changed_and_all_told_is_new(self):
        for quotient in (
            NOUGHT, (row_of(0, 0, 1), ONE), quotient_of(ONE, row_of(0, 1, 1)), quotient_of(ONE, row_of(0, 1)),
            quotient_of(row_of(0, 0, 1), row_of(0, 2, 3, 1)), quotient_of(ONE, power(row_of(1, 0, 1), 2)),
        ):
            owned(self, summed, quotient)


if __name__ == "__main__":
    unittest.main()
