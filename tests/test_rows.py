"""Points 5 and 6: rows, their division, value, slope and the row moved."""

import copy
import unittest
from fractions import Fraction

from paperwright.rows import divided, row_minus, row_moved, row_plus, row_times, row_value, slope
from reference import added, from_fraction, is_row, multiplied, random_row, refused, row_of, source, to_fraction, value

ROWS = [
    [], row_of(1), row_of(-3), row_of(Fraction(2, 7)), row_of(0, 1), row_of(1, 1), row_of(-1, 1), row_of(1, -1),
    row_of(0, 0, 0, 5), row_of(Fraction(1, 2), 0, Fraction(-3, 4)), row_of(-1, 0, 0, 1), row_of(1, 2, 1),
    row_of(10 ** 30, Fraction(1, 10 ** 30), Fraction(-(10 ** 30), 10 ** 30 - 1)), row_of(0, 0, Fraction(-1, 10 ** 30)),
    row_of(6, -5, -2, 1), row_of(*[1] * 21), row_of(*[0] * 20, 1),
]
POINTS = [(0, 1), (1, 1), (-1, 1), (2, 1), (-3, 2), (1, 10 ** 30), (-(10 ** 30), 7)]


def long_rows():
    chance = source(7)
    return [random_row(chance, degree, 10 ** 30, 10 ** 30) for degree in (0, 1, 2, 7, 19, 20)]


def plain(row):
    return [to_fraction(number) for number in row]


class SumsAndProductsTest(unittest.TestCase):
    def agrees(self, one, other):
        a, b = plain(one), plain(other)
        for told, expected in (
            (row_plus(one, other), added(a, b)),
            (row_minus(one, other), added(a, [-number for number in b])),
            (row_times(one, other), multiplied(a, b)),
        ):
            self.assertTrue(is_row(told), told)
            self.assertEqual(told, row_of(*expected))

    def test_edges(self):
        for one in ROWS:
            for other in ROWS:
                self.agrees(one, other)

    def test_long_numbers(self):
        for one in long_rows():
            for other in long_rows() + [[]]:
                self.agrees(one, other)

    def test_last_numbers_fall_out(self):
        self.assertEqual(row_plus(row_of(1, 2, 3), row_of(1, -2, -3)), row_of(2))
        self.assertEqual(row_plus(row_of(1, 2, 3), row_of(-1, -2, -3)), [])
        self.assertEqual(row_minus(row_of(5, 0, 3), row_of(1, 0, 3)), row_of(4))
        self.assertEqual(row_minus(row_of(0, 1), row_of(0, 1)), [])


class DivisionTest(unittest.TestCase):
    def holds(self, one, other):
        quotient, rest = divided(one, other)
        self.assertTrue(is_row(quotient))
        self.assertTrue(is_row(rest))
        self.assertLess(len(rest), len(other))
        self.assertEqual(row_of(*added(multiplied(plain(quotient), plain(other)), plain(rest))), one)

    def test_edges(self):
        for one in ROWS:
            for other in ROWS:
                if other:
                    self.holds(one, other)

    def test_long_numbers(self):
        for one in long_rows():
            for other in long_rows():
                self.holds(one, other)

    def test_told_as_a_tuple(self):
        self.assertEqual(divided(row_of(-1, 0, 1), row_of(1, 1)), (row_of(-1, 1), []))
        self.assertEqual(divided(row_of(1, 1), row_of(0, 0, 2)), ([], row_of(1, 1)))
        self.assertEqual(divided([], row_of(3)), ([], []))
        self.assertEqual(divided(row_of(1, 3), row_of(2)), (row_of(Fraction(1, 2), Fraction(3, 2)), []))

    def test_division_by_0_is_refused(self):
        for one in ROWS:
            refused(self, "NoNumber", divided, one, [])


class ValueTest(unittest.TestCase):
    def test_values(self):
        for row in ROWS + long_rows():
            for at in POINTS:
                self.assertEqual(row_value(row, at), from_fraction(value(plain(row), to_fraction(at))))


class SlopeTest(unittest.TestCase):
    def test_slopes(self):
        for row in ROWS + long_rows():
            expected = [power * number for power, number in enumerate(plain(row))][1:]
            self.assertTrue(is_row(slope(row)))
            self.assertEqual(slope(row), row_of(*expected))

    def test_of_degree_0_and_of_0(self):
        self.assertEqual(slope([]), [])
        self.assertEqual(slope(row_of(9)), [])
        self.assertEqual(slope(row_of(9, 0, Fraction(1, 2))), row_of(0, 1))


class MovedTest(unittest.TestCase):
    def test_moved_rows(self):
        for row in ROWS + long_rows():
            for by in POINTS:
                expected = []
                for number in reversed(plain(row)):
                    expected = added(multiplied(expected, [to_fraction(by), Fraction(1)]), [number])
                told = row_moved(row, by)
                self.assertTrue(is_row(told))
                self.assertEqual(told, row_of(*expected))

    def test_by_0_it_is_as_it_was_but_new(self):
        for row in ROWS:
            told = row_moved(row, (0, 1))
            self.assertEqual(told, row)
            self.assertIsNot(told, row)


class OwnershipTest(unittest.TestCase):
    def calls(self):
        for one in ROWS:
            yield slope, (one,)
            for at in POINTS[:4]:
                yield row_moved, (one, at)
            for other in ROWS:
                yield row_plus, (one, other)
                yield row_minus, (one, other)
                yield row_times, (one, other)
                if other:
                    yield divided, (one, other)
            yield row_plus, (one, one)
            yield row_minus, (one, one)

    def test_nothing_handed_in_is_changed_and_all_told_is_new(self):
        for call, handed in self.calls():
            before = copy.deepcopy(handed)
            told = call(*handed)
            expected = copy.deepcopy(told)
            self.assertEqual(handed, before)
            rows = list(told) if isinstance(told, tuple) else [told]
            for row in rows:
                row.append("spoilt")
                self.assertEqual(row.count("spoilt"), 1)
            self.assertEqual(handed, before)
            self.assertEqual(call(*handed), expected)


if __name__ == "__main__":
    unittest.main()
