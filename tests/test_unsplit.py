"""Point 15, as the checker reads it: wholenesses by many primes."""

import unittest

from paperwright.lifting import lifted
from paperwright.moduli import monic_by
from paperwright.primeparts import prime_parts
from paperwright.splitting import is_good, wholeness
from paperwright.unsplit import asked_exponent, bound_of_parts, is_unsplit_by, shows_unsplit
from paperwork import bound, paper_holds, unsplit_by
from reference import owned, source, to_fraction

WHOLES = (
    [0, 1], [-7, 3], [1, 0, 1], [-2, 0, 1], [1, 0, 0, 0, 1], [1, 0, -10, 0, 1], [2, 0, 0, 5], [1, 1, 1, 1, 1], [-1, 0, 1],
    [0, 1, 1], [4, 0, 5, 0, 1], [1, 0, 1, 0, 1], [-6, 1, 1], [6, 5, 1], [576, 0, -960, 0, 352, 0, -40, 0, 1], [0, -1, 0, 1],
    [-1, 0, 0, 0, 0, 0, 1], [3, 1, 4, 1, 5, 9, 2, 6, 5, 3], [0, 4, 0, -5, 0, 1],
)


def paper_by(whole, prime):
    exponent = 1
    while prime ** exponent <= 2 * whole[-1] * bound(whole):
        exponent += 1
    parts = [part for part, often in prime_parts(monic_by(whole, prime), prime)]
    modulus = prime ** exponent
    return (prime, exponent, lifted(monic_by(whole, modulus), parts, prime, modulus))


class UnsplitTest(unittest.TestCase):
    def test_papers_by_many_primes(self):
        for whole in WHOLES:
            is_whole = wholeness(whole) is not None
            for prime in (2, 3, 5, 7, 11, 13, 17, 97, 101, 9973):
                if is_good(prime, whole):
                    paper = paper_by(whole, prime)
                    self.assertIs(shows_unsplit(whole, paper), is_whole, (whole, paper))
                    self.assertIs(paper_holds(whole, paper), is_whole)
                    self.assertIs(shows_unsplit(whole, (prime, paper[1], paper[2][::-1])), is_whole)

    def test_parts_put_together_are_not_taken(self):
        # By these primes the row has several parts: two of them multiplied out are no part that doesn't split.
        whole = [1, 0, -10, 0, 1]
        for prime in (5, 7, 11, 13):
            prime, exponent, parts = paper_by(whole, prime)
            self.assertGreater(len(parts), 1)
            one, other = parts[:2]
            product = [0] * (len(one) + len(other) - 1)
            for i, a in enumerate(one):
                for j, b in enumerate(other):
                    product[i + j] = (product[i + j] + a * b) % prime ** exponent
            self.assertIs(shows_unsplit(whole, (prime, exponent, [product] + parts[2:])), False)

    def test_bounds(self):
        chance = source(131)
        for whole in WHOLES + tuple([chance.randint(-99, 99) for _ in range(n)] + [chance.randint(1, 99)] for n in range(1, 12)):
            self.assertEqual(to_fraction(bound_of_parts(whole)), bound(whole))
            for prime in (2, 3, 9973):
                exponent = asked_exponent(whole, prime)
                least = 2 * whole[-1] * bound(whole)
                self.assertTrue(prime ** exponent > least and (exponent == 1 or prime ** (exponent - 1) <= least))

    def test_unsplit_by_a_prime(self):
        for prime in (2, 3, 5):
            for number in range(prime ** 4):
                row = [number // prime ** place % prime for place in range(4)] + [1]
                for degree in (2, 3, 4):
                    self.assertIs(is_unsplit_by(row[4 - degree:], prime), unsplit_by(row[4 - degree:], prime))
        self.assertIs(is_unsplit_by([0, 1], 2), True)
        self.assertIs(is_unsplit_by([1, 1, 1, 1, 1], 2), True)
        self.assertIs(is_unsplit_by([1, 0, 1], 2), False)

    def test_nothing_handed_in_is_changed(self):
        for whole in WHOLES:
            if wholeness(whole) is not None:
                owned(self, shows_unsplit, whole, wholeness(whole))


if __name__ == "__main__":
    unittest.main()
