"""Point 13 but for its splitting: rows by a prime."""

import copy
import itertools
import unittest

from paperwright.rests import rest_divided, rest_plus, rest_times
from reference import refused, source

PRIMES = (2, 3, 5, 7, 101, 9967, 9973)


def trimmed(row, prime):
    row = [number % prime for number in row]
    while row and row[-1] == 0:
        row.pop()
    return row


def added(one, other, prime):
    length = max(len(one), len(other))
    return trimmed([sum(pair) for pair in zip(one + [0] * (length - len(one)), other + [0] * (length - len(other)))], prime)


def multiplied(one, other, prime):
    told = [0] * (len(one) + len(other))
    for i, a in enumerate(one):
        for j, b in enumerate(other):
            told[i + j] += a * b
    return trimmed(told, prime)


def is_rest(row, prime):
    return (
        type(row) is list and all(type(number) is int and 0 <= number < prime for number in row)
        and (not row or row[-1] != 0)
    )


def random_rests(prime, seed):
    chance = source(seed)
    rows = [[], [1], [prime - 1], [0, 1], [0, 0, prime - 1], [prime - 1, 1], [1, 1], [0] * 20 + [1], [1] * 21]
    for degree in (1, 2, 3, 7, 20):
        rows.append([chance.randrange(prime) for _ in range(degree)] + [chance.randrange(1, prime)])
    return rows


class RestsTest(unittest.TestCase):
    def agrees(self, one, other, prime):
        total, product = rest_plus(one, other, prime), rest_times(one, other, prime)
        self.assertTrue(is_rest(total, prime))
        self.assertTrue(is_rest(product, prime))
        self.assertEqual(total, added(one, other, prime))
        self.assertEqual(product, multiplied(one, other, prime))
        if other:
            told = rest_divided(one, other, prime)
            self.assertIs(type(told), tuple)
            quotient, rest = told
            self.assertTrue(is_rest(quotient, prime))
            self.assertTrue(is_rest(rest, prime))
            self.assertLess(len(rest), len(other))
            self.assertEqual(added(multiplied(quotient, other, prime), rest, prime), one)

    def test_all_short_rows_by_small_primes(self):
        for prime in (2, 3):
            rows = [list(row) for length in range(4) for row in itertools.product(range(prime), repeat=length)]
            rows = [row for row in rows if is_rest(row, prime)]
            for one in rows:
                for other in rows:
                    self.agrees(one, other, prime)

    def test_edges_and_long_rows(self):
        for prime in PRIMES:
            rows = random_rests(prime, prime)
            for one in rows:
                for other in rows:
                    self.agrees(one, other, prime)

    def test_known_ones(self):
        self.assertEqual(rest_plus([1, 1], [1, 1], 2), [])
        self.assertEqual(rest_plus([1, 2, 3], [1, 3, 2], 5), [2])
        self.assertEqual(rest_times([1, 1], [1, 1], 2), [1, 0, 1])
        self.assertEqual(rest_divided([1, 0, 1], [1, 1], 2), ([1, 1], []))
        self.assertEqual(rest_divided([1, 1], [3], 5), ([2, 2], []))
        self.assertEqual(rest_divided([4], [0, 3], 5), ([], [4]))
        self.assertEqual(rest_divided([], [0, 3], 5), ([], []))
        self.assertEqual(rest_times([9972], [9972], 9973), [1])

    def test_division_by_0_is_refused(self):
        for prime in PRIMES:
            for one in ([], [1], [0, 1]):
                refused(self, "NoNumber", rest_divided, one, [], prime)

    def test_nothing_handed_in_is_changed_and_all_told_is_new(self):
        for prime in PRIMES:
            rows = random_rests(prime, prime)
            for call in (rest_plus, rest_times, rest_divided):
                for one in rows:
                    for other in rows[1:] + [one or [1]]:
                        before = copy.deepcopy((one, other))
                        told = call(one, other, prime)
                        expected = copy.deepcopy(told)
                        for row in (told if isinstance(told, tuple) else (told,)):
                            row.append("spoilt")
                            self.assertEqual(row.count("spoilt"), 1)
                        self.assertEqual((one, other), before)
                        self.assertEqual(call(one, other, prime), expected)


if __name__ == "__main__":
    unittest.main()
