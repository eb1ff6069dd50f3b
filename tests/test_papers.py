"""Points 22 and 3: what the house tells with its papers is right, and the checker takes it."""

import unittest
from fractions import Fraction

from paperwright.areas import area
from paperwright.checker import holds
from paperwright.papers import (
    paper_area, paper_bare, paper_common, paper_parted, paper_plus, paper_roots, paper_sides, paper_sign, paper_split,
    paper_sum, paper_times,
)
from paperwright.pieces import pieces, quotient_of
from paperwright.roots import root_of, roots_of, sign_at
from paperwright.rootsums import root_plus, root_times
from paperwright.rows import row_moved, row_times
from paperwright.splitting import split
from paperwright.sums import summed
from bends import is_true
from reference import owned, random_row, refused, row_of, source
from test_pieces import NOUGHT, ONE, power, random_quotient
from trees import full_text, random_tree

X = row_of(0, 1)
ROOT_2 = ([-2, 0, 1], 1)
ROOT_3 = ([-3, 0, 1], 1)
NO_ROOTS = (([-1, 0, 1], 0), ([1, 0, 1], 0), ([-2, 0, 1], 2), ([-2, 0, 1], -1))


class PapersTest(unittest.TestCase):
    def told(self, call, *handed):
        """The claim that is told, which is true and taken with its paper."""
        answer = call(*handed)
        self.assertIs(type(answer), tuple)
        claim, paper = answer
        self.assertIs(holds(claim, paper), True, (claim, paper))
        self.assertTrue(is_true(claim), claim)
        return claim


class RowPapersTest(PapersTest):
    def test_common(self):
        f, g = row_of(-1, 0, 1), row_of(2, 2)
        self.assertEqual(self.told(paper_common, f, g), ("common", f, g, row_of(1, 1)))
        self.assertEqual(self.told(paper_common, [], []), ("common", [], [], []))
        self.assertEqual(self.told(paper_common, [], g), ("common", [], g, row_of(1, 1)))
        self.assertEqual(self.told(paper_common, g, []), ("common", g, [], row_of(1, 1)))
        chance = source(141)
        for _ in range(40):
            rows = [random_row(chance, chance.randint(0, 4), 20, 6) for _ in range(3)]
            self.told(paper_common, row_times(rows[0], rows[1]), row_times(rows[0], rows[2]))

    def test_bare(self):
        self.assertEqual(self.told(paper_bare, row_of(7)), ("bare", row_of(7)))
        self.assertEqual(self.told(paper_bare, row_of(1, 0, 1)), ("bare", row_of(1, 0, 1)))
        chance = source(142)
        for degree in range(12):
            self.told(paper_bare, random_row(chance, degree, 99, 9))
        for row in ([], row_of(0, 0, 1), power(row_of(1, 0, 1), 2), row_times(X, power(row_of(3, 2), 5))):
            refused(self, "NoRow", paper_bare, row)

    def test_common_and_bare_of_long_numbers(self):
        chance = source(143)
        rows = [random_row(chance, degree, 10 ** 30, 10 ** 30) for degree in (12, 9, 5)]
        self.assertIs(holds(*paper_common(row_times(rows[2], rows[0]), row_times(rows[2], rows[1]))), True)
        self.assertIs(holds(*paper_bare(random_row(chance, 14, 10 ** 30, 10 ** 30))), True)

    def test_split(self):
        f = row_of(0, Fraction(-1, 2), 0, Fraction(1, 2))
        self.assertEqual(self.told(paper_split, f), ("split", f, (1, 2), [([-1, 1], 1), ([0, 1], 1), ([1, 1], 1)]))
        chance = source(144)
        for _ in range(40):
            f = ONE
            while len(f) < 6:
                f = row_times(f, power(random_row(chance, chance.randint(1, 2), 5, 3), chance.randint(1, 2)))
            claim = self.told(paper_split, f)
            self.assertEqual(claim, ("split", f) + split(f))
        for degree in range(1, 10):
            self.told(paper_split, random_row(chance, degree, 10 ** 6, 1))
        for row in ([], ONE, row_of(-5)):
            refused(self, "NoRow", paper_split, row)

    def test_roots(self):
        self.assertEqual(self.told(paper_roots, row_of(1, 0, 1)), ("roots", row_of(1, 0, 1), []))
        chance = source(145)
        for degree in range(1, 10):
            for size in (9, 10 ** 6):
                claim = self.told(paper_roots, random_row(chance, degree, size, 4))
                self.assertEqual(len(claim[2]), len(roots_of(claim[1])))
        self.assertEqual(len(self.told(paper_roots, row_of(0, 4, 0, -5, 0, 1))[2]), 5)
        for row in ([], ONE, row_of(-5), row_of(0, 0, 1), power(row_of(1, 1, 1), 2)):
            refused(self, "NoRow", paper_roots, row)


class SidesPapersTest(PapersTest):
    def test_sides(self):
        self.assertEqual(paper_sides("x / x", "1"), (("same", "x / x", "1"), None))
        self.assertEqual(paper_sides("1", "2"), (("unlike", "1", "2"), []))
        claim, paper = paper_sides("y / (x - 1)", "z * y")
        self.assertEqual(claim, ("unlike", "y / (x - 1)", "z * y"))
        self.assertEqual([name for name, number in paper], ["x", "y", "z"])
        self.assertIs(holds(claim, paper), True)

    def test_any_sides(self):
        chance = source(146)
        many = 0
        for _ in range(150):
            one, other = [full_text(random_tree(chance, 3, ["x", "y", "z"])) for _ in range(2)]
            for text in (other, f"({one}) * 1", f"({one}) + 1"):
                try:
                    answer = paper_sides(one, text)
                except ValueError:
                    continue
                many += 1
                self.assertIs(holds(*answer), True)
                self.assertTrue(is_true(answer[0]))
        self.assertGreater(many, 200)

    def test_refusals_of_the_one_go_ahead(self):
        for text in ("", "x+1", "x^13", "(x", "x" * 1001, "X", "x ", "01", "--" * 16 + "x"):
            refused(self, "NoText", paper_sides, text, "1 / 0")
            refused(self, "NoText", paper_sides, text, "x")
            refused(self, "NoText", paper_sides, "x", text)
            refused(self, "NoValue", paper_sides, "1 / 0", text)
        refused(self, "NoValue", paper_sides, "x / (x - x)", "x")
        refused(self, "NoValue", paper_sides, "x", "x / (x - x)")


class RootPapersTest(PapersTest):
    def test_sign(self):
        chance = source(147)
        self.assertEqual(self.told(paper_sign, [], ROOT_2), ("sign", [], ROOT_2, 0))
        self.assertEqual(self.told(paper_sign, row_of(-3, 2), ROOT_2), ("sign", row_of(-3, 2), ROOT_2, -1))
        roots = [ROOT_2, root_of((0, 1)), root_of((-7, 3))]
        roots += [root for degree in (3, 5, 9) for root, often in roots_of(random_row(chance, degree, 10 ** 6, 1))]
        for root in roots:
            rows = [random_row(chance, degree, 10 ** 6, 3) for degree in (0, 1, 4, 9)] + [row_of(*root[0])]
            rows += [row_times(rows[1], rows[-1]), row_of(*[number + 1 for number in root[0]])]
            for row in rows:
                self.assertEqual(self.told(paper_sign, row, root), ("sign", row, root, sign_at(row, root)))
        for root in NO_ROOTS:
            refused(self, "NoRoot", paper_sign, ONE, root)
            refused(self, "NoRoot", paper_sign, [], root)

    def test_plus_and_times(self):
        chance = source(148)
        roots = [ROOT_2, ROOT_3, ([-2, 0, 1], 0), root_of((0, 1)), root_of((-3, 2)), ([-2, 0, 0, 1], 0), ([1, -3, 0, 1], 1)]
        for a in roots:
            for b in roots:
                self.assertEqual(self.told(paper_plus, a, b), ("plus", a, b, root_plus(a, b)))
                self.assertEqual(self.told(paper_times, a, b), ("times", a, b, root_times(a, b)))
        nine = roots_of(random_row(chance, 9, 10 ** 30, 1))[0][0]
        other = root_of((10 ** 30 - 1, 10 ** 29 + 7))
        for a, b in ((nine, other), (other, nine)):
            self.told(paper_plus, a, b)
            self.told(paper_times, a, b)

    def test_roots_are_refused_the_first_one_ahead(self):
        for root in NO_ROOTS:
            for call in (paper_plus, paper_times):
                refused(self, "NoRoot", call, root, ROOT_2)
                refused(self, "NoRoot", call, ROOT_2, root)
                refused(self, "NoRoot", call, root, root)


class QuotientPapersTest(PapersTest):
    def test_parted(self):
        self.assertEqual(self.told(paper_parted, NOUGHT), ("parted", NOUGHT, [], []))
        chance = source(149)
        for _ in range(40):
            t = random_quotient(chance, 9, 20)
            self.assertEqual(self.told(paper_parted, t), ("parted", t) + pieces(t))

    def test_sum(self):
        t = quotient_of(ONE, row_of(0, 1, 1))
        self.assertEqual(paper_sum(t), (("sum", t, (row_of(-1), X)), None))
        self.assertEqual(self.told(paper_sum, (ONE, X)), ("no sum", (ONE, X)))
        chance = source(150)
        for _ in range(40):
            t = random_quotient(chance, 9, 20)
            self.assertEqual(self.told(paper_sum, t)[0], "sum" if summed(t)[0] else "no sum")
        for way in (1, 7, 20):
            bottom = row_times(power(X, 3), power(row_moved(X, (way, 1)), 4))
            self.told(paper_sum, quotient_of(row_of(5, 4, 3, 2, 1), bottom))
        refused(self, "TooFar", paper_sum, quotient_of(ONE, row_of(0, 21, 1)))
        refused(self, "TooFar", paper_sum, quotient_of(ONE, row_of(0, -21, 1)))

    def test_area(self):
        t = (ONE, row_of(0, 0, 1))
        self.assertEqual(paper_area(t), (("area", t, (row_of(-1), X)), None))
        self.assertEqual(paper_area((ONE, X)), (("no area", (ONE, X)), (NOUGHT, (ONE, X), None)))
        chance = source(151)
        for _ in range(40):
            t = random_quotient(chance, 9, 20)
            self.assertEqual(self.told(paper_area, t)[0], "area" if area(t)[0] else "no area")
        self.told(paper_area, quotient_of(ONE, row_of(0, 21, 1)))


class OwnTest(unittest.TestCase):
    def test_nothing_handed_in_is_changed_and_all_told_is_new(self):
        rows = ([], ONE, X, row_of(-1, 0, 1), row_of(2, 4))
        for f in rows:
            for g in rows:
                owned(self, paper_common, f, g)
            owned(self, paper_common, f, f)
            owned(self, paper_sign, f, ROOT_2)
        for f in rows[1:]:
            owned(self, paper_bare, f)
        for f in rows[2:]:
            owned(self, paper_split, f)
            owned(self, paper_roots, f)
        for other in ("x", "y", "x + 0"):
            owned(self, paper_sides, "x", other)
        for call in (paper_plus, paper_times):
            owned(self, call, ROOT_2, ROOT_2)
            owned(self, call, ROOT_2, ([0, 1], 0))
        for t in (NOUGHT, (X, ONE), (ONE, X), (ONE, row_of(0, 0, 1)), quotient_of(ONE, row_of(0, 1, 1))):
            for call in (paper_parted, paper_sum, paper_area):
                owned(self, call, t)
        one = [(1, 1)]
        owned(self, paper_sum, (one, one))
        owned(self, paper_common, one, one)


if __name__ == "__main__":
    unittest.main()
