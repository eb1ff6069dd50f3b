"""Point 4: greatest common divisors with u and v, and primes."""

import math
import unittest

from paperwright.numbers import common, gcd, is_prime, raised
from reference import source


class CommonTest(unittest.TestCase):
    def holds(self, one, other):
        told = common(one, other)
        self.assertIs(type(told), tuple)
        self.assertEqual([type(part) for part in told], [int, int, int])
        divisor, u, v = told
        self.assertEqual(divisor, math.gcd(one, other))
        self.assertEqual(u * one + v * other, divisor)

    def test_small_numbers_of_every_sign(self):
        for one in range(-13, 14):
            for other in range(-13, 14):
                self.holds(one, other)

    def test_noughts(self):
        self.assertEqual(common(0, 0)[0], 0)
        self.assertEqual(common(0, -7)[0], 7)
        self.assertEqual(common(-7, 0)[0], 7)

    def test_long_numbers(self):
        chance = source(4)
        for figures in (30, 31, 100, 400):
            for _ in range(20):
                shared = chance.randint(1, 10 ** 20)
                one = shared * chance.randint(-10 ** figures, 10 ** figures)
                other = shared * chance.randint(-10 ** figures, 10 ** figures)
                self.holds(one, other)


class GcdTest(unittest.TestCase):
    def test_as_the_common_divisor(self):
        chance = source(5)
        for figures in (1, 3, 30, 1000, 2500, 9000):
            for _ in range(6):
                shared = chance.randint(0, 10 ** (figures // 3 + 1))
                one = shared * chance.randint(-10 ** figures, 10 ** figures)
                other = shared * chance.randint(-10 ** figures, 10 ** figures)
                self.assertEqual(gcd(one, other), math.gcd(one, other))

    def test_long_numbers_of_unlike_length_and_of_unusual_kind(self):
        long = 7 ** 9000
        fib, after = 0, 1
        for _ in range(30000):
            fib, after = after, fib + after
        for one, other in (
            (long, 7 ** 20), (7 ** 20, long), (long, 0), (0, long), (long, long), (long, -long), (long, long + 1),
            (1 << 20000, 1 << 19000), ((1 << 20000) - 1, (1 << 15000) - 1), (fib, after), (after * 91, fib * 91),
            (3 ** 12000, 3 ** 6000 * 2 ** 9000), (10 ** 9000 + 1, 10 ** 3000 + 1), (long * 6, 10 ** 5000),
        ):
            self.assertEqual(gcd(one, other), math.gcd(one, other))


class RaisedTest(unittest.TestCase):
    def test_powers(self):
        for number in (-3, -1, 0, 1, 2, 10 ** 30):
            for exponent in range(14):
                self.assertEqual(raised(number, exponent), number ** exponent)


class PrimeTest(unittest.TestCase):
    def test_small_numbers_by_their_divisors(self):
        for number in range(-20, 2000):
            expected = number >= 2 and all(number % divisor for divisor in range(2, number))
            self.assertIs(is_prime(number), expected)

    def test_the_edges(self):
        for number in (2, 3, 9973, 999983):
            self.assertIs(is_prime(number), True)
        for number in (-7, -1, 0, 1, 4, 9, 997 * 997, 991 * 997, 10 ** 6, 999999, -10 ** 6):
            self.assertIs(is_prime(number), False)


if __name__ == "__main__":
    unittest.main()
