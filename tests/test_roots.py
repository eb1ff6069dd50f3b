"""Points 18 and 19: numbers that are roots, their order, signs of rows there, stretches of them."""

import unittest
from fractions import Fraction

from paperwright.roots import order, root_of, roots_of, sign_at, within
from paperwright.rows import row_times, row_value
from paperwright.splitting import wholeness
from paperwright.sturm import count
from paperwork import is_whole
from reference import is_fraction, owned, random_row, refused, row_of, source, to_fraction
from test_sturm import through

FAR = (-10 ** 70, 1)
ROOT_2 = ([-2, 0, 1], 1)
# Tuples that are no roots: by their rows, which split, and by their numbers.
NO_ROOTS = [
    ([-1, 0, 1], 0), ([0, 0, 1], 0), ([1, 2, 1], 0), ([4, 0, 0, 0, 1], 0), ([-2, -1, 2, 1], 1), ([2, 4], 0),
    ([0, 1], 1), ([0, 1], -1), ([1, 0, 1], 0), ([-2, 0, 1], 2), ([-2, 0, 1], -1), ([-2, 0, 0, 1], 1), ([1, 0, 0, 0, 1], 0),
]


def is_root(told):
    whole, place = told
    return (
        type(told) is tuple and is_whole(whole) and wholeness(whole) is not None and type(place) is int
        and 0 <= place < count(row_of(*whole), FAR, (-FAR[0], 1))
    )


def ends(root, wide=Fraction(1, 10 ** 40)):
    low, high = within(root, row_of(wide)[0])
    return (to_fraction(low), to_fraction(high))


class RootsOfTest(unittest.TestCase):
    def holds(self, row):
        told = roots_of(row)
        self.assertIs(type(told), list)
        for entry in told:
            self.assertIs(type(entry), tuple)
            self.assertTrue(is_root(entry[0]))
            self.assertIs(type(entry[1]), int)
            self.assertEqual(sign_at(row, entry[0]), 0)
        self.assertEqual(len(told), count(row, FAR, (-FAR[0], 1)))
        for place in range(1, len(told)):
            self.assertEqual(order(told[place - 1][0], told[place][0]), -1)
        return told

    def test_known_ones(self):
        self.assertEqual(self.holds(row_of(0, 1)), [(([0, 1], 0), 1)])
        self.assertEqual(self.holds(row_of(1, 0, 1)), [])
        self.assertEqual(self.holds(row_of(-2, 0, 1)), [(([-2, 0, 1], 0), 1), (([-2, 0, 1], 1), 1)])
        self.assertEqual(self.holds(row_of(Fraction(-1, 2), -2)), [(([1, 4], 0), 1)])
        self.assertEqual(
            self.holds(row_of(0, 0, 2, 0, -3, 0, 1)),
            [(([-2, 0, 1], 0), 1), (([1, 1], 0), 1), (([0, 1], 0), 2), (([-1, 1], 0), 1), (([-2, 0, 1], 1), 1)],
        )

    def test_how_often(self):
        row = row_times(through([-1, -1, -1, 0, 2, 2]), row_times(row_of(-3, 0, 1), row_of(1, 0, 1)))
        self.assertEqual(
            self.holds(row),
            [(([-3, 0, 1], 0), 1), (([1, 1], 0), 3), (([0, 1], 0), 1), (([-3, 0, 1], 1), 1), (([-2, 1], 0), 2)],
        )
        cubed = row_times(row_of(-2, 0, 0, 1), row_times(row_of(-2, 0, 0, 1), row_of(-2, 0, 0, 1)))
        self.assertEqual(self.holds(cubed), [(([-2, 0, 0, 1], 0), 3)])

    def test_any_rows(self):
        chance = source(61)
        for _ in range(25):
            row = row_of(1)
            for _ in range(3):
                row = row_times(row, random_row(chance, chance.randint(0, 3), 5, 3))
            self.holds(row)

    def test_greatest_asked_rows(self):
        chance = source(62)
        for _ in range(4):
            self.holds(random_row(chance, 9, 10 ** 6, 9))
        self.holds(row_of(*[(-1) ** power * 10 ** 6 for power in range(9)], Fraction(10 ** 6, 1000)))

    def test_roots_that_lie_very_close(self):
        self.assertEqual(len(self.holds(row_of(-1, 2000, -10 ** 6, 0, 0, 0, 0, 0, 0, 1))), 3)

    def test_degree_0_has_none(self):
        self.assertEqual(roots_of(row_of(-4)), [])

    def test_the_row_0_is_refused(self):
        refused(self, "NoRow", roots_of, [])

    def test_nothing_handed_in_is_changed_and_all_told_is_new(self):
        for row in (row_of(3), row_of(0, 1), through([1, 1, 2]), row_of(0, -2, 0, 1), row_of(1, -3, 0, 1)):
            owned(self, roots_of, row)


class OrderTest(unittest.TestCase):
    def test_roots_of_one_row(self):
        for one in range(3):
            for other in range(3):
                told = order(([1, -3, 0, 1], one), ([1, -3, 0, 1], other))
                self.assertIs(type(told), int)
                self.assertEqual(told, (one > other) - (one < other))

    def test_fractions(self):
        chance = source(63)
        numbers = [Fraction(chance.randint(-9, 9), chance.randint(1, 9)) for _ in range(12)]
        for one in numbers:
            for other in numbers:
                told = order(root_of(row_of(one)[0]), root_of(row_of(other)[0]))
                self.assertEqual(told, (one > other) - (one < other))

    def test_any_roots(self):
        chance = source(64)
        roots = [root for _ in range(6) for root, often in roots_of(random_row(chance, 4, 4, 2))]
        for one in roots:
            for other in roots:
                low, high = ends(one)
                least, most = ends(other)
                told = 0 if one == other else -1 if high <= least else 1
                self.assertTrue(one == other or high <= least or most <= low)
                self.assertEqual(order(one, other), told)

    def test_roots_that_lie_very_close(self):
        top, bottom = 1, 1
        while bottom < 10 ** 29:
            top, bottom = top + 2 * bottom, top + bottom
            below = top * top < 2 * bottom * bottom
            self.assertEqual(order(root_of((top, bottom)), ROOT_2), -1 if below else 1)
            self.assertEqual(order(ROOT_2, root_of((top, bottom))), 1 if below else -1)
        near = 10 ** 30
        self.assertEqual(order(([-2 * near, 0, near - 1], 1), ROOT_2), 1)
        self.assertEqual(order(([-2 * near, 0, near - 1], 0), ([-2, 0, 1], 0)), -1)

    def test_greatest_sizes(self):
        chance = source(65)
        rows = [[chance.randint(-10 ** 30, 10 ** 30) for _ in range(9)] + [10 ** 30 - 11] for _ in range(3)]
        rows = [row for row in rows if wholeness(row) is not None]
        for one in rows:
            for other in rows:
                self.assertEqual(order((one, 0), (other, 0)), -order((other, 0), (one, 0)))
                self.assertEqual(order((one, 0), (other, 0)) == 0, one == other)

    def test_no_roots_are_refused(self):
        for root in NO_ROOTS:
            refused(self, "NoRoot", order, root, ROOT_2)
            refused(self, "NoRoot", order, ROOT_2, root)
            refused(self, "NoRoot", order, root, root)

    def test_nothing_handed_in_is_changed(self):
        owned(self, order, ROOT_2, ([-2, 0, 1], 0))
        owned(self, order, ROOT_2, ([-3, 2], 0))


class SignAtTest(unittest.TestCase):
    def test_known_ones(self):
        self.assertEqual(sign_at(row_of(-3, 2), ROOT_2), -1)
        self.assertEqual(sign_at(row_of(-7, 5), ROOT_2), 1)
        self.assertEqual(sign_at(row_of(7, -5), ROOT_2), -1)
        self.assertEqual(sign_at(row_of(-2, 0, 1), ROOT_2), 0)
        self.assertEqual(sign_at(row_of(0, -2, 0, 1), ([-2, 0, 1], 0)), 0)
        self.assertEqual(sign_at([], ROOT_2), 0)
        self.assertEqual(sign_at(row_of(Fraction(-1, 9)), ROOT_2), -1)
        self.assertEqual(sign_at(row_of(4), ROOT_2), 1)
        self.assertEqual(sign_at(row_of(0, 1), ([0, 1], 0)), 0)
        self.assertEqual(sign_at(row_of(0, 1), ([1, 10 ** 30], 0)), -1)

    def test_at_fractions(self):
        chance = source(66)
        for _ in range(60):
            row = random_row(chance, chance.randint(0, 6), 9, 4)
            at = row_of(Fraction(chance.randint(-9, 9), chance.randint(1, 6)))[0]
            top = row_value(row, at)[0]
            self.assertEqual(sign_at(row, root_of(at)), (top > 0) - (top < 0))
            self.assertEqual(sign_at(through([to_fraction(at), 5]), root_of(at)), 0)

    def test_signs_change_at_roots(self):
        chance = source(67)
        for _ in range(15):
            row = random_row(chance, 5, 9, 2)
            other = random_row(chance, chance.randint(1, 7), 9, 2)
            for root, often in roots_of(row):
                low, high = (row_of(end)[0] for end in ends(root))
                at_low, at_high = row_value(other, low), row_value(other, high)
                if at_low[0] * at_high[0] > 0:
                    self.assertEqual(sign_at(other, root), 1 if at_low[0] > 0 else -1)

    def test_a_root_that_is_very_close(self):
        near = 10 ** 30
        for place, sign in ((0, 1), (1, 1)):
            self.assertEqual(sign_at(row_of(-2, 0, 1), ([-2 * near, 0, near - 1], place)), sign)
            self.assertEqual(sign_at(row_of(-2, 0, 1), ([-2 * near, 0, near + 1], place)), -sign)

    def test_greatest_sizes(self):
        chance = source(68)
        row = random_row(chance, 20, 10 ** 30, 10 ** 30)
        for root in (ROOT_2, ([-2 * 10 ** 30] + [0] * 8 + [10 ** 30 - 1], 0)):
            at_low, at_high = (row_value(row, row_of(end)[0])[0] for end in ends(root))
            self.assertGreater(at_low * at_high, 0)
            self.assertEqual(sign_at(row, root), 1 if at_low > 0 else -1)
            self.assertEqual(sign_at(row_times(row, row_of(*root[0])), root), 0)

    def test_no_roots_are_refused(self):
        for root in NO_ROOTS:
            for row in ([], row_of(1), row_of(*root[0])):
                refused(self, "NoRoot", sign_at, row, root)

    def test_nothing_handed_in_is_changed(self):
        for row in ([], row_of(1), row_of(-3, 2), row_of(-2, 0, 1)):
            owned(self, sign_at, row, ROOT_2)


class WithinTest(unittest.TestCase):
    def holds(self, root, wide):
        told = within(root, wide)
        self.assertIs(type(told), tuple)
        low, high = told
        self.assertTrue(is_fraction(low) and is_fraction(high))
        self.assertLess(to_fraction(low), to_fraction(high))
        self.assertLessEqual(to_fraction(high) - to_fraction(low), to_fraction(wide))
        whole, place = root
        self.assertEqual(count(row_of(*whole), FAR, low), place)
        self.assertEqual(count(row_of(*whole), FAR, high), place + 1)

    def test_any_roots(self):
        roots = [ROOT_2, ([-2, 0, 1], 0), ([0, 1], 0), ([-1, 3], 0), ([-7, 1], 0), ([-2, 0, 0, 1], 0)]
        roots += [([1, -3, 0, 1], place) for place in range(3)]
        roots += [([1, 0, -10, 0, 1], place) for place in range(4)]
        for root in roots:
            for wide in ((1000, 1), (4, 1), (2, 1), (1, 1), (1, 3), (1, 1024), (1, 10 ** 30), (10 ** 30, 1)):
                self.holds(root, wide)

    def test_greatest_sizes(self):
        self.holds(([-2 * 10 ** 30] + [0] * 8 + [10 ** 30 - 1], 0), (1, 10 ** 30))
        self.holds(([-10 ** 30, 10 ** 30 - 1], 0), (1, 10 ** 30))
        close = [-1, 2 * 10 ** 15, -10 ** 30, 0, 0, 0, 0, 0, 0, 1]
        self.assertIsNotNone(wholeness(close))
        for place in range(3):
            self.holds((close, place), (1, 10))

    def test_no_roots_are_refused(self):
        for root in NO_ROOTS:
            refused(self, "NoRoot", within, root, (1, 2))

    def test_nothing_handed_in_is_changed(self):
        owned(self, within, ROOT_2, (1, 10))


class RootOfTest(unittest.TestCase):
    def test_fractions(self):
        self.assertEqual(root_of((0, 1)), ([0, 1], 0))
        self.assertEqual(root_of((3, 1)), ([-3, 1], 0))
        self.assertEqual(root_of((-2, 3)), ([2, 3], 0))
        self.assertEqual(root_of((10 ** 30, 7)), ([-10 ** 30, 7], 0))

    def test_all_told_is_new(self):
        owned(self, root_of, (-2, 3))


if __name__ == "__main__":
    unittest.main()
