"""Point 20: quotients, and the row and pieces that they are the sum of."""

import unittest
from fractions import Fraction

from paperwright.divisors import greatest
from paperwright.pieces import joined_pieces, pieces, quotient_of
from paperwright.rows import divided, row_minus, row_plus, row_times
from paperwright.splitting import wholeness
from paperwork import is_whole
from reference import is_row, owned, random_row, refused, row_of, source
from test_sturm import through

ONE = row_of(1)
NOUGHT = ([], row_of(1))
PARTS = ([0, 1], [-1, 1], [1, 2], [-3, 5], [1, 0, 1], [-2, 0, 1], [1, 1, 1], [-2, 0, 0, 1], [1, 0, 0, 0, 1])


def power(row, often):
    told = ONE
    for _ in range(often):
        told = row_times(told, row)
    return told


def quotient_plus(one, other):
    top = row_plus(row_times(one[0], other[1]), row_times(other[0], one[1]))
    return quotient_of(top, row_times(one[1], other[1]))


def is_quotient(told):
    return (
        type(told) is tuple and len(told) == 2 and is_row(told[0]) and is_row(told[1])
        and told[1][-1:] == ONE and greatest(told[0], told[1])[0] == ONE
    )


def random_quotient(chance, highest, size):
    bottom = row_of(chance.randint(1, size))
    for _ in range(4):
        factor = power(row_of(*chance.choice(PARTS)), chance.randint(1, 3))
        if len(bottom) + len(factor) - 2 <= highest:
            bottom = row_times(bottom, factor)
    return quotient_of(random_row(chance, chance.randint(0, highest), size, 3), bottom)


class QuotientOfTest(unittest.TestCase):
    def holds(self, top, bottom):
        told = quotient_of(top, bottom)
        self.assertTrue(is_quotient(told))
        self.assertEqual(row_times(told[0], bottom), row_times(top, told[1]))
        return told

    def test_known_ones(self):
        self.assertEqual(self.holds([], row_of(0, 7)), NOUGHT)
        self.assertEqual(self.holds([], row_of(-7)), NOUGHT)
        self.assertEqual(self.holds(row_of(1), row_of(2)), (row_of(Fraction(1, 2)), ONE))
        self.assertEqual(self.holds(row_of(-1, 0, 1), row_of(2, 2)), (row_of(Fraction(-1, 2), Fraction(1, 2)), ONE))
        self.assertEqual(self.holds(row_of(2, 2), row_of(-1, 0, 1)), (row_of(2), row_of(-1, 1)))
        self.assertEqual(self.holds(row_of(1), row_of(0, -3)), (row_of(Fraction(-1, 3)), row_of(0, 1)))

    def test_any_rows(self):
        chance = source(81)
        for _ in range(80):
            rows = [random_row(chance, chance.randint(0, 4), 5, 4) for _ in range(3)]
            self.holds(row_times(rows[0], rows[1]), row_times(rows[0], rows[2]))

    def test_long_numbers(self):
        chance = source(82)
        for one, other, shared in ((9, 9, 0), (6, 4, 3), (2, 5, 12), (0, 20, 0), (20, 0, 0), (1, 1, 19)):
            part = random_row(chance, shared, 10 ** 30, 10 ** 6)
            top = row_times(part, random_row(chance, one, 10 ** 30, 10 ** 30))
            bottom = row_times(part, random_row(chance, other, 10 ** 30, 10 ** 30))
            self.assertEqual(len(self.holds(top, bottom)[1]) - 1, other)

    def test_degree_20(self):
        chance = source(83)
        top, bottom = random_row(chance, 20, 10 ** 30, 10 ** 30), random_row(chance, 20, 10 ** 30, 10 ** 30)
        told = quotient_of(top, bottom)
        self.assertEqual(row_times(told[0], bottom), row_times(top, told[1]))
        self.assertEqual(len(told[1]), 21)

    def test_the_row_0_below_is_refused(self):
        for top in ([], ONE, row_of(0, 1)):
            refused(self, "NoNumber", quotient_of, top, [])

    def test_nothing_handed_in_is_changed_and_all_told_is_new(self):
        rows = [[], ONE, row_of(2), row_of(0, 1), row_of(1, 1), row_of(-1, 0, 1)]
        for top in rows:
            for bottom in rows[1:]:
                owned(self, quotient_of, top, bottom)
            owned(self, quotient_of, top, top or ONE)


class PiecesTest(unittest.TestCase):
    def holds(self, quotient):
        told = pieces(quotient)
        self.assertIs(type(told), tuple)
        row, found = told
        self.assertTrue(is_row(row))
        self.assertIs(type(found), list)
        total = (row, ONE)
        for piece in found:
            self.assertIs(type(piece), tuple)
            part, often, top = piece
            self.assertTrue(is_whole(part))
            self.assertIsNotNone(wholeness(part))
            self.assertIs(type(often), int)
            self.assertGreater(often, 0)
            self.assertTrue(is_row(top))
            self.assertTrue(0 < len(top) < len(part))
            total = quotient_plus(total, quotient_of(top, power(row_of(*part), often)))
        self.assertEqual(total, quotient)
        ranks = [(len(part), part[::-1], often) for part, often, top in found]
        self.assertEqual(ranks, sorted(ranks))
        self.assertEqual(len(ranks), len({(tuple(part), often) for part, often, top in found}))
        self.assertEqual(joined_pieces(row, found), quotient)
        return told

    def test_known_ones(self):
        self.assertEqual(self.holds(NOUGHT), ([], []))
        self.assertEqual(self.holds((row_of(1, 2, 3), ONE)), (row_of(1, 2, 3), []))
        self.assertEqual(
            self.holds(quotient_of(ONE, row_of(0, 1, 1))), ([], [([0, 1], 1, row_of(1)), ([1, 1], 1, row_of(-1))]),
        )
        self.assertEqual(
            self.holds(quotient_of(row_of(0, 0, 0, 1), row_of(-1, 0, 1))),
            (row_of(0, 1), [([-1, 1], 1, row_of(Fraction(1, 2))), ([1, 1], 1, row_of(Fraction(1, 2)))]),
        )
        self.assertEqual(self.holds(quotient_of(ONE, row_of(1, 2))), ([], [([1, 2], 1, row_of(1))]))
        self.assertEqual(
            self.holds(quotient_of(row_of(1, 1), row_of(0, 0, 1))), ([], [([0, 1], 1, row_of(1)), ([0, 1], 2, row_of(1))]),
        )
        self.assertEqual(self.holds(quotient_of(ONE, row_of(0, 0, 0, 3))), ([], [([0, 1], 3, row_of(Fraction(1, 3)))]))

    def test_any_quotients(self):
        chance = source(84)
        for _ in range(120):
            self.holds(random_quotient(chance, 9, 9))

    def test_greatest_asked_ones(self):
        chance = source(85)
        for _ in range(10):
            self.holds(random_quotient(chance, 9, 10 ** 6))
        self.holds(quotient_of(row_of(*[10 ** 6] * 10), power(row_of(-1, 3), 9)))
        self.holds(quotient_of(row_of(*[10 ** 6] * 9), through([Fraction(n, 2) for n in range(9)])))
        self.holds(quotient_of(random_row(chance, 9, 10 ** 6, 5), random_row(chance, 9, 10 ** 6, 5)))

    def test_nothing_handed_in_is_changed_and_all_told_is_new(self):
        for bottom in (ONE, row_of(0, 0, 0, 1), row_of(-1, 0, 1), power(row_of(1, 0, 1), 2), row_of(0, -1, 0, 0, 0, 1)):
            for top in ([], ONE, row_of(1, 2, 3), row_of(5, 0, 0, 0, 0, 1)):
                owned(self, pieces, quotient_of(top, bottom))


class ReferenceTest(unittest.TestCase):
    def test_sums_of_quotients(self):
        one, other = quotient_of(ONE, row_of(0, 1)), quotient_of(row_of(-1), row_of(1, 1))
        self.assertEqual(quotient_plus(one, other), (ONE, row_of(0, 1, 1)))
        self.assertEqual(divided(row_minus(row_of(0, 0, 1), ONE), row_of(1, 1)), (row_of(-1, 1), []))


if __name__ == "__main__":
    unittest.main()
