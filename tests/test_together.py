"""Point 22, of plus and times: rows in two unknowns, multiplied out and divided with rest; and the ends of stretches."""

import unittest
from fractions import Fraction
from math import comb

from paperwright.fractions import plus, times
from paperwright.rootsums import product_row, sum_row
from paperwright.rows import row_plus, row_times
from paperwright.together import ends_lie_within, is_nought_at_products, is_nought_at_sums
from reference import from_fraction, owned, random_row, row_of, source, to_fraction


def rest(numbers, whole):
    numbers = list(numbers)
    while len(numbers) >= len(whole):
        head = numbers[-1] / Fraction(whole[-1])
        for place in range(1, len(whole) + 1):
            numbers[-place] -= head * whole[-place]
        numbers.pop()
    return numbers + [Fraction(0)] * (len(whole) - 1 - len(numbers))


def plain_nought(row, one, other, is_sum):
    """The table of all y^i z^j, each line divided by the one's row and then each column by the other's."""
    size = len(row)
    table = [[Fraction(0)] * size for _ in range(size)]
    for power, number in enumerate(row):
        if is_sum:
            for i in range(power + 1):
                table[i][power - i] += comb(power, i) * to_fraction(number)
        else:
            table[power][power] += to_fraction(number)
    columns = [rest(column, one) for column in zip(*table)]
    lines = [rest(line, other) for line in zip(*columns)]
    return not any(number for line in lines for number in line)


class NoughtTest(unittest.TestCase):
    def test_sums_and_products_of_roots(self):
        for one, other in (
            ([0, 1], [0, 1]), ([-1, 2], [3, 5]), ([-2, 0, 1], [-3, 0, 1]), ([1, 1, 7], [-2, 3]), ([-3, 2], [1, 0, 0, 5]),
            ([-2, 0, 0, 3], [1, 1, 1]), ([5, -1, 0, 2], [1, 0, 4, 3]), ([1, 2, 3, 4, 5, 6, 7, 8, 9, 11], [-7, 10]),
        ):
            for is_sum, nought, row_for in ((True, is_nought_at_sums, sum_row), (False, is_nought_at_products, product_row)):
                row = row_for(one, other)
                for more in ([(1, 1)], row_of(3, 0, Fraction(-2, 7)), row):
                    self.assertIs(nought(row_times(row, more), one, other), True)
                self.assertTrue(plain_nought(row, one, other, is_sum))
                for place in range(len(row)):
                    bent = row_plus(row, row_of(*[0] * place, 1))
                    self.assertIs(nought(bent, one, other), plain_nought(bent, one, other, is_sum))

    def test_any_rows(self):
        chance = source(121)
        for _ in range(60):
            one = [chance.randint(-5, 5) for _ in range(chance.randint(1, 3))] + [chance.randint(1, 5)]
            other = [chance.randint(-5, 5) for _ in range(chance.randint(1, 3))] + [chance.randint(1, 5)]
            row = random_row(chance, chance.randint(0, 5), 3, 2)
            self.assertIs(is_nought_at_sums(row, one, other), plain_nought(row, one, other, True))
            self.assertIs(is_nought_at_products(row, one, other), plain_nought(row, one, other, False))

    def test_nothing_handed_in_is_changed(self):
        owned(self, is_nought_at_sums, row_of(-2, 0, 1), [-2, 0, 1], [0, 1])
        owned(self, is_nought_at_products, row_of(-4, 0, 1), [-2, 0, 1], [-2, 0, 1])


class EndsTest(unittest.TestCase):
    def test_all_ends_are_above_low_and_at_most_high(self):
        chance = source(122)
        for _ in range(200):
            one, other = [sorted(Fraction(chance.randint(-4, 4), chance.randint(1, 3)) for _ in range(2)) for _ in range(2)]
            for join, joined in ((plus, Fraction.__add__), (times, Fraction.__mul__)):
                outcomes = [joined(a, b) for a in one for b in other]
                for low in (min(outcomes), min(outcomes) - Fraction(1, 9), min(outcomes) + Fraction(1, 9)):
                    for high in (max(outcomes), max(outcomes) + Fraction(1, 9), max(outcomes) - Fraction(1, 9)):
                        stretches = [tuple(map(from_fraction, one)), tuple(map(from_fraction, other))]
                        told = ends_lie_within(stretches[0], stretches[1], join, from_fraction(low), from_fraction(high))
                        self.assertIs(told, low < min(outcomes) and max(outcomes) <= high)


if __name__ == "__main__":
    unittest.main()
