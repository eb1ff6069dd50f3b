"""Points 14 and 15: how rows split into whole rows, and the papers that these don't split."""

import unittest
from fractions import Fraction

from paperwright.divisors import greatest
from paperwright.rows import row_times
from paperwright.splitting import split, wholeness
from paperwright.wholerows import whole_row
from paperwork import bound, is_prime, is_whole, paper_holds
from reference import is_fraction, owned, random_row, refused, row_of, source

# None of these splits, and by each prime each of them but the first four does.
STUBBORN = [
    [0, 1], [-1, 1], [-3, 2], [1, 10 ** 30], [1, 0, 0, 0, 1], [1, 0, -10, 0, 1], [4, 0, -16, 0, 1], [9, 0, -2, 0, 1],
    [576, 0, -960, 0, 352, 0, -40, 0, 1], [1, 0, 0, 0, -1, 0, 0, 0, 1], [1, 0, -1, 0, 1], [1, 0, 0, 0, 0, 0, 0, 0, 1],
]
UNSPLIT = STUBBORN + [
    [1, 0, 1], [-2, 0, 1], [1, 1, 1], [-1, -1, 1], [-2, 0, 0, 1], [1, 1, 1, 1, 1], [-5, 0, 0, 0, 0, 0, 0, 0, 0, 2],
    [1, 1, 0, 0, 0, 0, 0, 0, 0, 1], [1, 0, 0, 1, 0, 0, 1], [3, 6, 2], [7, 0, 0, 0, 0, 10 ** 9], [-1, -1, 0, 0, 0, 1],
]


def powers(row, often):
    told = row_of(1)
    for _ in range(often):
        told = row_times(told, row)
    return told


def multiplied(number, parts):
    told = [number]
    for part, often in parts:
        told = row_times(told, powers(row_of(*part), often))
    return told


def rank(part):
    return (len(part), part[::-1])


class SplitTest(unittest.TestCase):
    def holds(self, row):
        told = split(row)
        self.assertIs(type(told), tuple)
        number, parts = told
        self.assertTrue(is_fraction(number))
        self.assertIs(type(parts), list)
        for entry in parts:
            self.assertIs(type(entry), tuple)
            part, often = entry
            self.assertIs(type(often), int)
            self.assertTrue(is_whole(part))
            self.assertTrue(paper_holds(part, wholeness(part)))
        ranks = [rank(part) for part, often in parts]
        self.assertEqual(ranks, sorted(ranks))
        self.assertEqual(len(parts), len({tuple(part) for part, often in parts}))
        self.assertEqual(multiplied(number, parts), row)
        return told

    def test_known_ones(self):
        self.assertEqual(split(row_of(-1, 0, 1)), ((1, 1), [([-1, 1], 1), ([1, 1], 1)]))
        self.assertEqual(split(row_of(0, 0, Fraction(-3, 2))), ((-3, 2), [([0, 1], 2)]))
        self.assertEqual(split(row_of(1, 2)), ((1, 1), [([1, 2], 1)]))
        self.assertEqual(split(row_of(Fraction(1, 2), 1)), ((1, 2), [([1, 2], 1)]))
        self.assertEqual(
            split(row_of(-1, 0, 0, 0, 0, 0, 1)),
            ((1, 1), [([-1, 1], 1), ([1, 1], 1), ([1, -1, 1], 1), ([1, 1, 1], 1)]),
        )
        self.assertEqual(split(row_of(4, 0, 0, 0, 1)), ((1, 1), [([2, -2, 1], 1), ([2, 2, 1], 1)]))
        self.assertEqual(split(row_of(6, 5, -6)), ((-1, 1), [([-3, 2], 1), ([2, 3], 1)]))

    def test_parts_rise_by_degree_then_by_the_greatest_power(self):
        parts = [[5, 1], [-7, 1], [-1, 2], [0, 1], [1, 0, 1], [-2, 0, 1]]
        row = multiplied((1, 1), [(part, 1) for part in parts])
        told = [part for part, often in self.holds(row)[1]]
        self.assertEqual(told, [[-7, 1], [0, 1], [5, 1], [-1, 2], [-2, 0, 1], [1, 0, 1]])

    def test_rows_that_split_by_every_prime_but_not_as_whole_rows(self):
        for whole in STUBBORN:
            self.assertEqual(self.holds(row_of(*whole)), ((1, 1), [(whole, 1)]))
        self.assertEqual(
            self.holds(multiplied((-1, 3), [([1, 0, 0, 0, 1], 1), ([1, 0, -10, 0, 1], 1)])),
            ((-1, 3), [([1, 0, -10, 0, 1], 1), ([1, 0, 0, 0, 1], 1)]),
        )

    def test_equal_parts(self):
        for part in ([0, 1], [-1, 1], [5, 3], [1000, 999]):
            for often in range(1, 10):
                self.assertEqual(self.holds(multiplied((2, 5), [(part, often)])), ((2, 5), [(part, often)]))
        self.assertEqual(self.holds(multiplied((1, 1), [([1, 0, 1], 4)])), ((1, 1), [([1, 0, 1], 4)]))
        mixed = [([0, 1], 3), ([1, 2], 1), ([1, 1, 1], 2)]
        self.assertEqual(self.holds(multiplied((7, 1), mixed)), ((7, 1), mixed))

    def test_nine_lines(self):
        lines = [([-number, 1], 1) for number in range(4, -5, -1)]
        self.assertEqual(self.holds(multiplied((1, 1), lines)), ((1, 1), lines))

    def test_products_of_random_rows(self):
        chance = source(31)
        for _ in range(60):
            row = row_of(1)
            for _ in range(3):
                row = row_times(row, random_row(chance, chance.randint(0, 3), 4, 3))
            self.holds(row)

    def test_greatest_asked_rows(self):
        chance = source(32)
        for _ in range(12):
            row = row_of(*[Fraction(chance.randint(-10 ** 6, 10 ** 6), 1000) for _ in range(9)], Fraction(10 ** 6, 997))
            self.holds([(top, bottom) for top, bottom in row])
        self.holds(row_of(*[10 ** 6] * 10))
        self.holds(row_of(*[-10 ** 6] * 9, Fraction(1, 1000)))

    def test_told_rows_with_long_numbers(self):
        chance = source(33)
        one = random_row(chance, 4, 10 ** 30, 10 ** 30)
        other = random_row(chance, 5, 10 ** 30, 10 ** 30)
        self.assertEqual([len(part) for part, often in self.holds(row_times(one, other))[1]], [5, 6])
        self.holds(greatest(random_row(chance, 5, 10 ** 9, 9), random_row(chance, 4, 10 ** 9, 9))[1])

    def test_degree_0(self):
        for number in ((1, 1), (-3, 1), (2, 7)):
            self.assertEqual(split([number]), (number, []))

    def test_the_row_0_is_refused(self):
        refused(self, "NoRow", split, [])

    def test_nothing_handed_in_is_changed_and_all_told_is_new(self):
        for row in (row_of(3), row_of(0, 1), row_of(0, 0, 2), row_of(-1, 0, 0, 0, 1), row_of(1, 0, 1), row_of(1, 2, 1)):
            owned(self, split, row)


class WholenessTest(unittest.TestCase):
    def test_unsplit_ones_have_papers(self):
        for whole in UNSPLIT:
            self.assertTrue(paper_holds(whole, wholeness(whole)), whole)

    def test_split_ones_have_none(self):
        for one in UNSPLIT[:10]:
            for other in UNSPLIT:
                product = whole_row(row_times(row_of(*one), row_of(*other)))[1]
                if len(product) <= 10:
                    self.assertIsNone(wholeness(product))

    def test_least_degrees(self):
        self.assertEqual(wholeness([0, 1]), (2, 2, [[0, 1]]))
        self.assertEqual(wholeness([-1, 1]), (2, 2, [[3, 1]]))
        for lead in (1, 2, 3, 6, 30, 30030, 10 ** 30):
            for last in (1, -1, 7, 10 ** 9 + 7):
                paper = wholeness([last, lead])
                self.assertTrue(paper_holds([last, lead], paper))
                self.assertNotEqual(lead % paper[0], 0)

    def test_exponents_are_the_least(self):
        for whole in UNSPLIT:
            prime, exponent, parts = wholeness(whole)
            least = 2 * whole[-1] * bound(whole)
            self.assertGreater(prime ** exponent, least)
            self.assertTrue(exponent == 1 or prime ** (exponent - 1) <= least)

    def test_the_last_number_may_rule_out_all_primes_but_the_greatest_ones(self):
        lead = 1
        for prime in range(2, 9967):
            lead = lead * prime if is_prime(prime) else lead
        for whole in ([1, lead], [1, 0, lead], [1, 1, 0, lead]):
            paper = wholeness(whole)
            self.assertIn(paper[0], (9967, 9973))
            self.assertTrue(paper_holds(whole, paper))
        self.assertEqual(wholeness([1, lead * 9967])[0], 9973)

    def test_asked_rows_with_the_greatest_numbers(self):
        chance = source(34)
        told = []
        for degree in (2, 5, 8, 9, 9, 9, 9):
            whole = whole_row(row_of(*[chance.randint(-10 ** 9, 10 ** 9) for _ in range(degree)], 10 ** 9 - 1))[1]
            paper = wholeness(whole)
            told.append(paper is not None)
            self.assertEqual(len(split(row_of(*whole))[1]) == 1, paper is not None)
            if paper is not None:
                self.assertTrue(paper_holds(whole, paper))
        self.assertIn(True, told)

    def test_small_rows_agree_with_their_splitting(self):
        chance = source(35)
        for _ in range(150):
            whole = whole_row(random_row(chance, chance.randint(1, 6), 3, 1))[1]
            parts = split(row_of(*whole))[1]
            paper = wholeness(whole)
            self.assertEqual(paper is None, parts != [(whole, 1)])
            if paper is not None:
                self.assertTrue(paper_holds(whole, paper))

    def test_nothing_handed_in_is_changed_and_all_told_is_new(self):
        for whole in UNSPLIT + [[1, 2, 1], [-1, 0, 1]]:
            owned(self, wholeness, whole)


class ReaderOfPapersTest(unittest.TestCase):
    """The tests' own reading of papers takes no false one."""

    def test_false_papers(self):
        whole = [1, 0, 0, 0, 1]
        prime, exponent, parts = wholeness(whole)
        self.assertTrue(paper_holds(whole, (prime, exponent, parts[::-1])))
        for paper in (
            None, (prime, exponent), [prime, exponent, parts], (prime, exponent + 1, parts), (4, exponent, parts),
            (prime, exponent, parts[:1]), (prime, exponent, parts + [[1]]), (prime, exponent, [[1, 0, 0, 0, 1]]),
            (prime, exponent, []), (9973 + 34, 1, parts),
        ):
            self.assertFalse(paper_holds(whole, paper))
        self.assertFalse(paper_holds([-1, 0, 1], (3, 1, [[1, 1], [2, 1]])))
        self.assertFalse(paper_holds([-1, 0, 1], (3, 2, [[1, 1], [8, 1]])))


if __name__ == "__main__":
    unittest.main()
