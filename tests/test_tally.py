"""Point 16, as the checker counts: roots of any row, each counted once."""

import unittest
from fractions import Fraction

from paperwright.rows import row_times
from paperwright.sturm import count
from paperwright.tally import all_roots, roots_up_to, roots_within, tally_of
from reference import from_fraction, owned, random_row, row_of, source
from test_pieces import power


def through(roots):
    """A row with these fractions as its roots, each with how often it comes."""
    told = row_of(-3)
    for root, often in roots.items():
        told = row_times(told, power([from_fraction(-root), (1, 1)], often))
    return told


class TallyTest(unittest.TestCase):
    def test_rows_with_known_roots(self):
        chance = source(111)
        for _ in range(60):
            roots = {Fraction(chance.randint(-9, 9), chance.randint(1, 4)): chance.randint(1, 3) for _ in range(chance.randint(0, 4))}
            for more in (row_of(1), row_of(1, 0, 1), row_of(2, 0, 5, 0, 2), power(row_of(1, 1, 1), 2)):
                chain = tally_of(row_times(through(roots), more))
                self.assertEqual(all_roots(chain), len(roots))
                for at in list(roots) + [Fraction(n, 3) for n in range(-30, 31, 7)]:
                    self.assertEqual(roots_up_to(chain, from_fraction(at)), sum(root <= at for root in roots))

    def test_rows_of_degree_0(self):
        for number in (1, -1, Fraction(-5, 7)):
            chain = tally_of(row_of(number))
            self.assertEqual((all_roots(chain), roots_up_to(chain, (0, 1))), (0, 0))

    def test_against_the_house(self):
        chance = source(112)
        for _ in range(80):
            row = random_row(chance, chance.randint(1, 9), 30, 5)
            row = row_times(row, power(random_row(chance, chance.randint(0, 2), 9, 3), chance.randint(1, 3)))
            chain = tally_of(row)
            for low, high in ((-9, 9), (-1, 0), (0, 1), (Fraction(-1, 2), Fraction(5, 7)), (-(10 ** 9), 10 ** 9)):
                low, high = from_fraction(low), from_fraction(high)
                self.assertEqual(roots_within(chain, low, high), count(row, low, high))
            self.assertEqual(all_roots(chain), count(row, (-(10 ** 9), 1), (10 ** 9, 1)))

    def test_nothing_handed_in_is_changed(self):
        for row in (row_of(4), row_of(-1, 0, 1), row_of(9, -12, 4)):
            owned(self, tally_of, row)


if __name__ == "__main__":
    unittest.main()
