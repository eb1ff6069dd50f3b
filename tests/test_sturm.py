"""Point 16: Sturm's row, and how many roots lie in a stretch."""

import unittest
from fractions import Fraction

from paperwright.rows import row_times
from paperwright.sturm import count, sturm_row
from reference import added, is_row, multiplied, owned, random_row, refused, row_of, source, to_fraction, value

BARE = [
    row_of(0, 1), row_of(3, -1), row_of(-2, 0, 1), row_of(2, 0, 1), row_of(2, 0, -1), row_of(0, -1, 0, 1),
    row_of(-1, 0, 0, 0, 1), row_of(1, 0, 0, 0, 0, 1), row_of(-2, 0, 0, 0, 0, 0, 0, 0, 0, 1),
    row_of(Fraction(1, 3), Fraction(-7, 2), 0, Fraction(5, 9)), row_of(1, -3, 0, 0, -1), row_of(0, -4, 0, 5, 0, -1),
]


def through(roots, number=1):
    told = row_of(number)
    for root in roots:
        told = row_times(told, row_of(-Fraction(root), 1))
    return told


def rest(one, other):
    one = list(one)
    while len(one) >= len(other):
        head = one[-1] / other[-1]
        for place in range(1, len(other) + 1):
            one[-place] -= head * other[-place]
        one.pop()
    return added(one, [])


def defined(row):
    """Sturm's row word by word."""
    first = [to_fraction(number) for number in row]
    told = [first, [power * number for power, number in enumerate(first)][1:]]
    while told[-1]:
        told.append([-number for number in rest(told[-2], told[-1])])
    return told[:-1]


class SturmRowTest(unittest.TestCase):
    def holds(self, row):
        told = sturm_row(row)
        self.assertIs(type(told), list)
        self.assertTrue(all(map(is_row, told)))
        self.assertEqual([[to_fraction(number) for number in part] for part in told], defined(row))

    def test_edges(self):
        for row in BARE:
            self.holds(row)

    def test_known_one(self):
        self.assertEqual(sturm_row(row_of(-2, 0, 1)), [row_of(-2, 0, 1), row_of(0, 2), row_of(2)])
        self.assertEqual(sturm_row(row_of(5, 2)), [row_of(5, 2), row_of(2)])

    def test_any_rows(self):
        chance = source(41)
        for degree in range(1, 10):
            for top, bottom in ((3, 1), (3, 3), (10 ** 6, 1000)):
                self.holds(random_row(chance, degree, top, bottom))

    def test_long_numbers(self):
        chance = source(42)
        self.holds(random_row(chance, 5, 10 ** 30, 10 ** 30))
        self.holds(random_row(chance, 9, 10 ** 30, 1))

    def test_degree_20(self):
        told = sturm_row(random_row(source(43), 20, 10 ** 30, 1))
        self.assertEqual([len(row) for row in told], list(range(21, 0, -1)))
        self.assertTrue(all(map(is_row, told)))

    def test_degree_0_has_none(self):
        self.assertEqual(sturm_row(row_of(5)), [])

    def test_the_row_0_is_refused(self):
        refused(self, "NoRow", sturm_row, [])

    def test_nothing_handed_in_is_changed_and_all_told_is_new(self):
        for row in BARE + [row_of(5)]:
            owned(self, sturm_row, row)


class CountTest(unittest.TestCase):
    def test_roots_that_are_known(self):
        roots = [-3, Fraction(-1, 2), 0, Fraction(1, 3), 2]
        ends = sorted(set(roots) | {Fraction(n, 12) for n in range(-48, 49, 7)})
        for row in (through(roots), through(roots, Fraction(-2, 7)), row_times(through(roots), row_of(1, 1, 1))):
            for place, low in enumerate(ends):
                for high in ends[place + 1:]:
                    found = count(row, row_of(low)[0], row_of(high)[0])
                    self.assertIs(type(found), int)
                    self.assertEqual(found, sum(low < root <= high for root in roots))

    def test_each_root_is_counted_once(self):
        roots = {Fraction(-1): 3, Fraction(0): 1, Fraction(1, 2): 4, Fraction(2): 2}
        row = through([root for root in roots for _ in range(roots[root])], -5)
        for low in (-2, -1, Fraction(-1, 2), 0, Fraction(1, 2), 1, 2):
            for high in (-1, 0, Fraction(1, 2), 1, 2, 3):
                if low < high:
                    found = count(row, row_of(low)[0], row_of(high)[0])
                    self.assertEqual(found, sum(low < root <= high for root in roots))
        doubled = row_times(row_of(-2, 0, 1), row_times(row_of(-2, 0, 1), row_of(1, 0, 1)))
        self.assertEqual(count(doubled, (0, 1), (2, 1)), 1)
        self.assertEqual(count(doubled, (-2, 1), (2, 1)), 2)
        self.assertEqual(count(doubled, (3, 2), (2, 1)), 0)
        for roots in ([1, 1, 3], [1, 3, 3], [1, 1], [1, 1, 3, 3]):
            row = through(roots)
            for low, high in ((0, 1), (1, 2), (1, 3), (2, 3), (3, 4), (0, 3), (1, 5)):
                self.assertEqual(count(row, (low, 1), (high, 1)), sum(low < root <= high for root in set(roots)))

    def test_no_root_and_one_root(self):
        self.assertEqual(count(row_of(1, 0, 1), (-10 ** 30, 1), (10 ** 30, 1)), 0)
        self.assertEqual(count(row_of(-2, 0, 0, 1), (-10 ** 30, 1), (10 ** 30, 1)), 1)
        self.assertEqual(count(row_of(0, 1), (-1, 1), (0, 1)), 1)
        self.assertEqual(count(row_of(0, 1), (0, 1), (1, 1)), 0)

    def test_roots_that_lie_very_close(self):
        close = Fraction(1, 10 ** 30)
        row = through([Fraction(1, 3), Fraction(1, 3) + close])
        self.assertEqual(count(row, (0, 1), (1, 3)), 1)
        self.assertEqual(count(row, (0, 1), (1, 1)), 2)
        self.assertEqual(count(row, (1, 3), (1, 1)), 1)

    def test_signs_tell_the_same_where_they_can(self):
        chance = source(44)
        for _ in range(60):
            row = random_row(chance, chance.randint(1, 7), 5, 3)
            numbers = [to_fraction(number) for number in row]
            ends = [Fraction(chance.randint(-9, 9)) for _ in range(2)]
            if ends[0] != ends[1] and all(value(numbers, end) for end in ends):
                low, high = sorted(ends)
                found = count(row, row_of(low)[0], row_of(high)[0])
                bare = len(sturm_row(row)[-1]) == 1
                if bare:
                    self.assertEqual(found % 2, int(value(numbers, low) * value(numbers, high) < 0))

    def test_degree_20_with_tops_and_bottoms_of_thirty_figures(self):
        chance = source(45)
        row = random_row(chance, 20, 10 ** 30, 10 ** 30)
        numbers = [to_fraction(number) for number in row]
        found = count(row, (-10 ** 30, 1), (10 ** 30, 7))
        self.assertEqual(found % 2, int(value(numbers, -10 ** 30) * value(numbers, Fraction(10 ** 30, 7)) < 0))
        roots = [Fraction(chance.randint(-9, 9), chance.randint(1, 9)) for _ in range(20)]
        row = through(roots)
        self.assertEqual(count(row, (-10, 1), (10, 1)), len(set(roots)))
        self.assertEqual(count(row, row_of(min(roots))[0], (10, 1)), len(set(roots)) - 1)

    def test_degree_0_has_none(self):
        self.assertEqual(count(row_of(-5), (0, 1), (1, 1)), 0)

    def test_the_row_0_is_refused(self):
        refused(self, "NoRow", count, [], (0, 1), (1, 1))

    def test_nothing_handed_in_is_changed(self):
        for row in BARE:
            owned(self, count, row, (-1, 1), (1, 2))


class ReferenceTest(unittest.TestCase):
    def test_rest(self):
        one, other = [Fraction(n) for n in (1, 2, 3, 4)], [Fraction(n) for n in (5, 6)]
        left = rest(one, other)
        self.assertEqual(value(left, Fraction(0)), value(one, Fraction(-5, 6)))
        self.assertEqual(rest(multiplied(one, other), other), [])


if __name__ == "__main__":
    unittest.main()
