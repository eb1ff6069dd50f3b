"""Point 13: how rows by a prime split."""

import itertools
import unittest

from paperwright.primeparts import prime_parts
from paperwork import product, unsplit_by
from reference import owned, source

PRIMES = (2, 3, 5, 7, 101, 9967, 9973)


def monic_rows(prime, degree):
    return [list(numbers) + [1] for numbers in itertools.product(range(prime), repeat=degree)]


def sieved(prime, highest):
    """All monic rows that split no further, found as those that are no product of two lesser ones."""
    unsplit = {1: monic_rows(prime, 1)}
    for degree in range(2, highest + 1):
        products = {
            tuple(product([one, other], prime))
            for lesser in range(1, degree // 2 + 1)
            for one in unsplit[lesser]
            for other in monic_rows(prime, degree - lesser)
        }
        unsplit[degree] = [row for row in monic_rows(prime, degree) if tuple(row) not in products]
    return [row for degree in unsplit for row in unsplit[degree]]


def rank(part):
    return (len(part), part[::-1])


class PrimePartsTest(unittest.TestCase):
    def holds(self, row, prime):
        told = prime_parts(row, prime)
        self.assertIs(type(told), list)
        whole = []
        for entry in told:
            self.assertIs(type(entry), tuple)
            part, often = entry
            self.assertIs(type(part), list)
            self.assertIs(type(often), int)
            self.assertTrue(all(type(number) is int and 0 <= number < prime for number in part))
            self.assertEqual(part[-1], 1)
            self.assertGreater(len(part), 1)
            self.assertGreater(often, 0)
            whole += [part] * often
        self.assertEqual(product(whole, prime), row)
        ranks = [rank(part) for part, often in told]
        self.assertEqual(ranks, sorted(ranks))
        self.assertEqual(len(told), len({tuple(part) for part, often in told}))
        return told

    def test_all_rows_of_small_degree(self):
        for prime, highest in ((2, 7), (3, 5), (5, 3), (7, 3)):
            unsplit = set(map(tuple, sieved(prime, highest)))
            for degree in range(1, highest + 1):
                for row in monic_rows(prime, degree):
                    for part, often in self.holds(row, prime):
                        self.assertIn(tuple(part), unsplit)

    def test_known_ones(self):
        self.assertEqual(prime_parts([0, 1], 2), [([0, 1], 1)])
        self.assertEqual(prime_parts([9972, 1], 9973), [([9972, 1], 1)])
        self.assertEqual(prime_parts([1, 0, 1], 2), [([1, 1], 2)])
        self.assertEqual(prime_parts([1, 0, 1], 3), [([1, 0, 1], 1)])
        self.assertEqual(prime_parts([1, 0, 1], 5), [([2, 1], 1), ([3, 1], 1)])
        self.assertEqual(prime_parts([1, 0, 0, 0, 1], 2), [([1, 1], 4)])
        self.assertEqual(prime_parts([1, 0, 0, 0, 1], 3), [([2, 1, 1], 1), ([2, 2, 1], 1)])
        self.assertEqual(prime_parts([1, 1, 0, 1, 1, 0, 0, 0, 1], 2), [([1, 1, 0, 1, 1, 0, 0, 0, 1], 1)])

    def test_parts_rise_by_the_greatest_power_first(self):
        rows = [[1, 0, 1], [1, 1], [0, 1], [2, 1], [2, 2, 1], [2, 1, 1]]
        told = [part for part, often in self.holds(product(rows, 3), 3)]
        self.assertEqual(told, [[0, 1], [1, 1], [2, 1], [1, 0, 1], [2, 1, 1], [2, 2, 1]])

    def test_equal_parts(self):
        for prime in PRIMES:
            for part in ([0, 1], [1, 1], [prime - 1, 1]):
                self.assertEqual(self.holds(product([part] * 9, prime), prime), [(part, 9)])
            for often in (prime, prime + 1):
                if often <= 9:
                    row = product([[1, 1]] * often + [[0, 1]] * (9 - often), prime)
                    self.assertEqual(dict((tuple(part), many) for part, many in self.holds(row, prime))[(1, 1)], often)
        self.assertEqual(self.holds(product([[1, 1, 1]] * 4 + [[0, 1]], 2), 2), [([0, 1], 1), ([1, 1, 1], 4)])

    def test_many_parts_of_one_degree(self):
        self.assertEqual(len(self.holds([0, 2] + [0] * 7 + [1], 3)), 6)
        self.assertEqual(len(self.holds([0, 1] + [0] * 6 + [1], 2)), 4)
        for prime in (5, 7, 101, 9967, 9973):
            lines = [[number, 1] for number in range(5)] + [[prime - number, 1] for number in range(1, 5)]
            lines = sorted(set(map(tuple, [[number % prime for number in line] for line in lines])))
            told = self.holds(product(lines, prime), prime)
            self.assertEqual([part for part, often in told], sorted(map(list, lines)))

    def test_random_products(self):
        for prime in PRIMES:
            chance = source(prime)
            for _ in range(40):
                rows = [[chance.randrange(prime) for _ in range(chance.randint(1, 3))] + [1] for _ in range(3)]
                for part, often in self.holds(product(rows, prime), prime):
                    self.assertTrue(unsplit_by(part, prime))

    def test_degree_9(self):
        for prime in PRIMES:
            chance = source(prime + 1)
            for _ in range(12):
                row = [chance.randrange(prime) for _ in range(9)] + [1]
                for part, often in self.holds(row, prime):
                    self.assertTrue(unsplit_by(part, prime))

    def test_nothing_handed_in_is_changed_and_all_told_is_new(self):
        for prime in PRIMES:
            for row in ([0, 1], [1, 1, 1], [1, 0, 0, 0, 1], [0, 0, 1], product([[1, 1]] * 9, prime)):
                owned(self, prime_parts, row, prime)


if __name__ == "__main__":
    unittest.main()
