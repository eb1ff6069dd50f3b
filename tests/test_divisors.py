"""Point 7: greatest divisors with cofactors, resultants, bare parts."""

import copy
import unittest
from fractions import Fraction

from paperwright.divisors import bare_parts, greatest, resultant
from paperwright.rows import divided, row_plus, row_times, slope
from reference import (
    determinant, from_fraction, is_fraction, is_row, random_row, refused, resultant_table, row_of, source, to_fraction,
)

ONE = row_of(1)
ROWS = [
    [], row_of(1), row_of(-3), row_of(Fraction(2, 7)), row_of(0, 1), row_of(1, 1), row_of(-1, 1), row_of(2, -2),
    row_of(0, 0, 0, 5), row_of(Fraction(1, 2), 0, Fraction(-3, 4)), row_of(-1, 0, 0, 1), row_of(1, 2, 1),
    row_of(-1, 0, 1), row_of(1, 0, 1), row_of(0, -1, 0, 1), row_of(4, 0, 5, 0, 1), row_of(6, -5, -2, 1),
    row_of(1, 0, 2, 0, 1), row_of(-1, 3, -3, 1), row_of(0, 0, 0, 0, 0, 0, 7), row_of(3, 0, 0, 0, -1, 0, 0, 1),
]


def small_rows(seed, many):
    chance = source(seed)
    told = []
    for _ in range(many):
        rows = [random_row(chance, chance.randint(0, 3), 4, 3) for _ in range(3)]
        told.append((row_times(rows[0], rows[1]), row_times(rows[0], rows[2])))
    return told


def powers(row, often):
    told = ONE
    for _ in range(often):
        told = row_times(told, row)
    return told


class GreatestTest(unittest.TestCase):
    def holds(self, one, other):
        told = greatest(one, other)
        self.assertIs(type(told), tuple)
        divisor, u, v = told
        for row in told:
            self.assertTrue(is_row(row))
        self.assertEqual(row_plus(row_times(u, one), row_times(v, other)), divisor)
        if one == [] and other == []:
            self.assertEqual(divisor, [])
        else:
            self.assertEqual(divisor[-1], (1, 1))
            self.assertEqual(divided(one, divisor)[1], [])
            self.assertEqual(divided(other, divisor)[1], [])
        return divisor

    def test_edges(self):
        for one in ROWS:
            for other in ROWS:
                self.holds(one, other)

    def test_small_rows_with_common_parts(self):
        for one, other in small_rows(8, 150):
            self.holds(one, other)

    def test_known_ones(self):
        self.assertEqual(self.holds(row_of(-1, 0, 1), row_of(1, 2, 1)), row_of(1, 1))
        self.assertEqual(self.holds(row_of(0, 4), row_of(0, 0, 6)), row_of(0, 1))
        self.assertEqual(self.holds(row_of(5), row_of(0, 0, 6)), ONE)
        self.assertEqual(self.holds([], row_of(3, 6)), row_of(Fraction(1, 2), 1))
        self.assertEqual(self.holds(row_of(3, 6), []), row_of(Fraction(1, 2), 1))

    def test_long_numbers(self):
        chance = source(9)
        for shared, rest in ((0, 9), (6, 6), (12, 8), (20, 0)):
            part = random_row(chance, shared, 10 ** 30, 10 ** 30)
            one = row_times(part, random_row(chance, rest, 10 ** 30, 10 ** 30))
            other = row_times(part, random_row(chance, max(rest - 1, 0), 10 ** 30, 10 ** 30))
            self.assertEqual(len(self.holds(one, other)), len(part))

    def test_degree_20_with_tops_and_bottoms_of_thirty_figures(self):
        chance = source(10)
        one = random_row(chance, 20, 10 ** 30, 10 ** 30)
        other = random_row(chance, 19, 10 ** 30, 10 ** 30)
        self.assertEqual(self.holds(one, other), ONE)


class ResultantTest(unittest.TestCase):
    def holds(self, one, other):
        told = resultant(one, other)
        self.assertTrue(is_fraction(told))
        table = resultant_table([to_fraction(a) for a in one], [to_fraction(b) for b in other])
        self.assertEqual(told, from_fraction(determinant(table)))
        self.assertEqual(told == (0, 1), len(greatest(one, other)[0]) > 1)

    def test_edges(self):
        for one in ROWS[1:]:
            for other in ROWS[1:]:
                self.holds(one, other)

    def test_small_rows(self):
        for one, other in small_rows(11, 80):
            self.holds(one, other)
            self.holds(row_plus(one, ONE) or ONE, other)

    def test_known_ones(self):
        self.assertEqual(resultant(row_of(7), row_of(-3)), (1, 1))
        self.assertEqual(resultant(row_of(-3), row_of(1, 0, 0, 2)), (-27, 1))
        self.assertEqual(resultant(row_of(1, 0, 0, 2), row_of(-3)), (-27, 1))
        self.assertEqual(resultant(row_of(-2, 1), row_of(-5, 1)), (-3, 1))
        self.assertEqual(resultant(row_of(-5, 1), row_of(-2, 1)), (3, 1))
        self.assertEqual(resultant(row_of(-1, 0, 1), row_of(1, 1)), (0, 1))

    def test_long_numbers(self):
        chance = source(12)
        for degree, other in ((20, 0), (0, 20), (20, 1), (3, 4), (7, 5), (6, 9)):
            self.holds(random_row(chance, degree, 10 ** 30, 10 ** 30), random_row(chance, other, 10 ** 30, 10 ** 30))

    def test_degree_20_on_both_sides(self):
        chance = source(13)
        one = random_row(chance, 20, 10 ** 30, 1)
        other = random_row(chance, 20, 10 ** 30, 1)
        self.holds(one, other)

    def test_the_row_0_is_refused(self):
        for row in ROWS:
            refused(self, "NoRow", resultant, row, [])
            refused(self, "NoRow", resultant, [], row)


class BarePartsTest(unittest.TestCase):
    def holds(self, row):
        told = bare_parts(row)
        self.assertIs(type(told), list)
        product = [row[-1]]
        before = 0
        for part, often in told:
            self.assertTrue(is_row(part))
            self.assertEqual(part[-1], (1, 1))
            self.assertGreater(len(part), 1)
            self.assertGreater(often, before)
            self.assertEqual(greatest(part, slope(part))[0], ONE)
            before = often
            product = row_times(product, powers(part, often))
        self.assertEqual(product, row)
        for place, (part, often) in enumerate(told):
            for other, count in told[place + 1:]:
                self.assertEqual(greatest(part, other)[0], ONE)
        return told

    def test_edges(self):
        for row in ROWS[1:]:
            self.holds(row)

    def test_of_degree_0_there_are_none(self):
        self.assertEqual(bare_parts(row_of(1)), [])
        self.assertEqual(bare_parts(row_of(Fraction(-2, 3))), [])

    def test_known_ones(self):
        self.assertEqual(bare_parts(row_of(0, 0, 0, 5)), [(row_of(0, 1), 3)])
        self.assertEqual(bare_parts(row_of(-4, 0, 4)), [(row_of(-1, 0, 1), 1)])
        first, second, third = row_of(1, 0, 1), row_of(-2, 1), row_of(Fraction(1, 3), 1)
        whole = row_times(row_of(-7), row_times(first, row_times(powers(second, 2), powers(third, 5))))
        self.assertEqual(bare_parts(whole), [(first, 1), (second, 2), (third, 5)])
        both = row_times(powers(second, 4), powers(third, 4))
        self.assertEqual(bare_parts(both), [(row_times(second, third), 4)])
        self.assertEqual(bare_parts(powers(row_of(1, 1), 20)), [(row_of(1, 1), 20)])

    def test_products_of_powers(self):
        chance = source(14)
        for _ in range(60):
            row = ONE
            for _ in range(3):
                row = row_times(row, powers(random_row(chance, chance.randint(0, 2), 3, 2), chance.randint(0, 3)))
            self.holds(row)

    def test_long_numbers(self):
        chance = source(15)
        self.holds(random_row(chance, 12, 10 ** 30, 10 ** 30))
        parts = [random_row(chance, degree, 10 ** 30, 10 ** 30) for degree in (2, 2, 1)]
        whole = row_times(parts[0], row_times(powers(parts[1], 2), powers(parts[2], 4)))
        self.assertEqual([(len(part), often) for part, often in self.holds(whole)], [(3, 1), (3, 2), (2, 4)])

    def test_degree_20(self):
        chance = source(16)
        self.holds(random_row(chance, 20, 10 ** 30, 10 ** 30))

    def test_the_row_0_is_refused(self):
        refused(self, "NoRow", bare_parts, [])


class OwnershipTest(unittest.TestCase):
    def test_nothing_handed_in_is_changed_and_all_told_is_new(self):
        for one in ROWS:
            for other in ROWS + [one]:
                before = copy.deepcopy((one, other))
                told = greatest(one, other)
                expected = copy.deepcopy(told)
                for row in told:
                    row.append("spoilt")
                    self.assertEqual(row.count("spoilt"), 1)
                self.assertEqual((one, other), before)
                self.assertEqual(greatest(one, other), expected)
                if one and other:
                    resultant(one, other)
                    self.assertEqual((one, other), before)

    def test_bare_parts_are_the_askers_own(self):
        for row in ROWS[1:]:
            before = copy.deepcopy(row)
            told = bare_parts(row)
            expected = copy.deepcopy(told)
            for part, often in told:
                part.append("spoilt")
                self.assertEqual(part.count("spoilt"), 1)
            told.append("spoilt")
            self.assertEqual(row, before)
            self.assertEqual(bare_parts(row), expected)


if __name__ == "__main__":
    unittest.main()
