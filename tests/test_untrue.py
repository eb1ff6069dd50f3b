"""Point 22: false claims with the best papers that can be made, and true ones with papers that are not as told."""

import unittest
from fractions import Fraction

from paperwright.checker import holds
from paperwright.divisors import greatest
from paperwright.papers import paper_parted, paper_plus, paper_roots, paper_sign, paper_split, paper_sum
from paperwright.pieces import quotient_of
from paperwright.rootsums import product_row, sum_row
from paperwright.rows import row_moved, row_times, slope
from paperwright.splitting import lifted_parts, wholeness
from reference import row_of
from test_pieces import NOUGHT, ONE, power

X = row_of(0, 1)
ROOT_2 = ([-2, 0, 1], 1)
ROOT_3 = ([-3, 0, 1], 1)
HALF = Fraction(1, 2)


def stretch(low, high):
    return tuple(row_of(low, high))


class UntrueTest(unittest.TestCase):
    def taken(self, claim, paper):
        self.assertIs(holds(claim, paper), True, (claim, paper))

    def refused(self, claim, paper):
        self.assertIs(holds(claim, paper), False, (claim, paper))


class RowsTest(UntrueTest):
    def test_common(self):
        f, g = row_of(-1, 0, 1), row_of(2, 2)
        d, u, v = greatest(f, g)
        self.taken(("common", f, g, row_of(1, 1)), (u, v, row_of(-1, 1), row_of(2)))
        # A divisor that is not monic, a lesser one, one that divides neither, one that divides but one of them.
        self.refused(("common", f, g, row_of(2, 2)), ([], ONE, row_of(-HALF, HALF), ONE))
        self.refused(("common", f, g, row_of(-1, -1)), ([], row_of(-HALF), row_of(1, -1), row_of(-2)))
        self.refused(("common", f, g, ONE), (u, v, f, g))
        self.refused(("common", f, g, row_times(f, g)), (u, v, [], []))
        self.refused(("common", f, g, row_of(-1, 1)), (u, v, row_of(1, 1), []))
        self.refused(("common", f, g, []), ([], [], [], []))
        self.refused(("common", [], [], ONE), (ONE, ONE, [], []))
        self.taken(("common", [], [], []), (ONE, X, X, ONE))
        self.refused(("common", f, [], ONE), ([], [], f, []))
        # True claims, with a paper that is wrong at one place.
        self.refused(("common", f, g, d), (v, u, row_of(-1, 1), row_of(2)))
        self.refused(("common", f, g, d), (u, v, row_of(1, 1), row_of(2)))
        self.refused(("common", f, g, d), (u, v, row_of(-1, 1), ONE))

    def test_bare(self):
        square = row_of(1, 2, 1)
        d, u, v = greatest(square, slope(square))
        self.refused(("bare", square), (u, v))
        self.refused(("bare", []), ([], []))
        self.refused(("bare", []), (ONE, ONE))
        self.taken(("bare", X), ([], ONE))
        self.refused(("bare", X), ([], row_of(2)))
        self.refused(("bare", X), ([], []))

    def test_roots(self):
        f = row_of(0, -2, 0, 1)
        claim, paper = paper_roots(f)
        good = [stretch(-2, -1), stretch(-1, 1), stretch(1, 2)]
        self.taken(("roots", f, good), paper)
        self.taken(("roots", f, [stretch(-2, -1), stretch(-1, 0), stretch(0, 2)]), paper)
        for bad in (
            good[:2], good[1:], [], good[::-1], good + [stretch(3, 4)], [stretch(-2, 0), stretch(0, 2)],
            [stretch(-2, -1), stretch(-2, 1), stretch(1, 2)], [stretch(-2, -1), stretch(-1, 1), stretch(HALF, 2)],
            [stretch(-2, -1), stretch(0, 1), stretch(1, 2)], [good[0], good[0], good[2]], [stretch(-2, 2)],
            [stretch(-2, -1), stretch(-1, Fraction(-1, 2)), stretch(1, 2)], [good[0], good[2], good[1]],
        ):
            self.refused(("roots", f, bad), paper)
        self.taken(("roots", row_of(-3, 2), [stretch(1, 2)]), ([], row_of(HALF)))
        self.refused(("roots", ONE, []), (ONE, []))
        self.refused(("roots", [], []), ([], []))
        square = power(X, 2)
        self.refused(("roots", square, [stretch(-1, 1)]), ([], row_of(HALF)))
        self.refused(("roots", f, good), (paper[1], paper[0]))


class WholenessTest(UntrueTest):
    def test_rows_that_split(self):
        for whole in (
            [-1, 0, 1], [4, 0, 5, 0, 1], [0, 0, 1], [0, 1, 1], [1, 0, 1, 0, 1], [-1, 0, 0, 0, 0, 0, 1], [2, 5, 2], [1, 5, 6],
            [2, -3, 1], [1, -5, 6], [6, -5, 1], [-6, -1, 1], [1, -2, 3, -2, 1], [15, -11, 2],
        ):
            self.assertIsNone(wholeness(whole))
            if whole not in ([0, 0, 1], [1, -2, 3, -2, 1]):
                self.refused(("unsplit", whole), lifted_parts(whole))
        self.refused(("unsplit", [0, 0, 1]), (5, 1, [[0, 1], [0, 1]]))
        self.refused(("unsplit", [0, 0, 1]), (5, 1, [[0, 0, 1]]))

    def test_parts_that_split_by_the_prime(self):
        # By 5 the row x^2 + 1 is (x + 2) (x + 3), by 7 it doesn't split, and by 2 it is (x + 1)^2. Its bound is 3.
        self.taken(("unsplit", [1, 0, 1]), (5, 2, [[7, 1], [18, 1]]))
        self.taken(("unsplit", [1, 0, 1]), (5, 2, [[18, 1], [7, 1]]))
        self.refused(("unsplit", [1, 0, 1]), (5, 1, [[2, 1], [3, 1]]))
        self.refused(("unsplit", [1, 0, 1]), (5, 2, [[1, 0, 1]]))
        self.taken(("unsplit", [1, 0, 1]), (7, 1, [[1, 0, 1]]))
        self.refused(("unsplit", [1, 0, 1]), (2, 3, [[1, 0, 1]]))
        # The bound of x^2 - 1 is 4, that of (x + 2)^2 is 13.
        for prime, exponent in ((5, 2), (7, 2), (11, 1), (13, 1)):
            self.refused(("unsplit", [-1, 0, 1]), (prime, exponent, [[prime ** exponent - 1, 0, 1]]))
            self.refused(("unsplit", [-1, 0, 1]), (prime, exponent, [[1, 1], [prime ** exponent - 1, 1]]))
        self.refused(("unsplit", [4, 4, 1]), (3, 4, [[2, 1], [2, 1]]))
        self.refused(("unsplit", [4, 4, 1]), (29, 1, [[2, 1], [2, 1]]))

    def test_parts_that_are_alike_by_the_prime(self):
        # 17 is a square by each power of 2, and x^2 - 17 has the bound 33; but by 2 both parts are x + 1.
        root = [number for number in range(128) if number * number % 128 == 17][0]
        self.refused(("unsplit", [-17, 0, 1]), (2, 7, [[root, 1], [128 - root, 1]]))
        self.taken(("unsplit", [-17, 0, 1]), wholeness([-17, 0, 1]))

    def test_numbers_of_parts_are_below_the_power(self):
        self.taken(("unsplit", [0, 1]), (2, 2, [[0, 1]]))
        self.refused(("unsplit", [0, 1]), (2, 2, [[4, 1]]))
        self.taken(("unsplit", [-1, 1]), (2, 2, [[3, 1]]))
        self.refused(("unsplit", [-1, 1]), (2, 2, [[7, 1]]))

    def test_parts_in_any_order(self):
        for whole in ([1, 0, 0, 0, 1], [1, 0, -10, 0, 1]):
            prime, exponent, parts = wholeness(whole)
            self.taken(("unsplit", whole), (prime, exponent, parts))
            self.taken(("unsplit", whole), (prime, exponent, parts[::-1]))
            self.refused(("unsplit", whole), (prime, exponent, parts + [[1]]))
            self.refused(("unsplit", whole), (prime, exponent, parts[1:]))
            self.refused(("unsplit", whole), (prime, exponent, parts + parts))
            modulus = prime ** exponent
            self.refused(("unsplit", whole), (prime, exponent, [[part[0] + modulus] + part[1:] for part in parts]))
            self.refused(("unsplit", whole), (prime, exponent, [[part[0] - modulus] + part[1:] for part in parts]))

    def test_the_exponent_is_the_least(self):
        # Of 2 x - 3 the bound is 3, so that the power must be above 2 * 2 * 3.
        self.taken(("unsplit", [-3, 2]), (5, 2, [[11, 1]]))
        self.refused(("unsplit", [-3, 2]), (5, 1, [[1, 1]]))
        self.refused(("unsplit", [-3, 2]), (5, 3, [[-3 * pow(2, -1, 125) % 125, 1]]))
        self.taken(("unsplit", [-3, 2]), (13, 1, [[-3 * 7 % 13, 1]]))
        self.refused(("unsplit", [-3, 2]), (11, 1, [[-3 * 6 % 11, 1]]))

    def test_the_prime_is_one_and_does_not_divide_the_last_number(self):
        self.refused(("unsplit", [-3, 2]), (2, 4, [[1, 1]]))
        self.refused(("unsplit", [-3, 2]), (25, 1, [[11, 1]]))
        self.refused(("unsplit", [0, 3]), (3, 2, [[0, 1]]))

    def test_a_row_that_splits_by_each_prime(self):
        whole = [1, 0, -10, 0, 1]
        prime, exponent, parts = wholeness(whole)
        self.assertGreater(len(parts), 1)
        self.refused(("unsplit", whole), (prime, exponent, [[number % prime ** exponent for number in whole]]))


class SplitTest(UntrueTest):
    def test_split(self):
        f = row_of(0, -HALF, 0, HALF)
        claim, paper = paper_split(f)
        word, f, c, parts = claim
        self.taken(claim, paper)
        self.refused(("split", f, (1, 1), parts), paper)
        self.refused(("split", f, (0, 1), parts), paper)
        self.refused(("split", f, c, parts[::-1]), paper[::-1])
        self.refused(("split", f, c, parts), paper[::-1])
        self.refused(("split", f, c, parts), paper[1:])
        self.refused(("split", f, c, parts), paper + paper[:1])
        self.refused(("split", f, c, parts[1:]), paper[1:])
        both = [([0, 1], 1), ([-1, 0, 1], 1)]
        self.refused(("split", f, c, both), [wholeness([0, 1]), lifted_parts([-1, 0, 1])])
        square = row_of(1, 2, 1)
        self.taken(("split", square, (1, 1), [([1, 1], 2)]), [wholeness([1, 1])])
        self.refused(("split", square, (1, 1), [([1, 1], 1), ([1, 1], 1)]), [wholeness([1, 1])] * 2)
        self.refused(("split", square, (1, 1), [([1, 1], 1)]), [wholeness([1, 1])])
        self.refused(("split", square, (1, 1), [([1, 1], 0), ([1, 1], 2)]), [wholeness([1, 1])] * 2)
        self.taken(("split", row_of(-3, Fraction(2, 5)), (1, 5), [([-15, 2], 1)]), [wholeness([-15, 2])])
        self.refused(("split", ONE, (1, 1), []), [])
        self.refused(("split", [], (0, 1), []), [])
        self.refused(("split", row_of(1, 2), (1, 2), [([2, 4], 1)]), [wholeness([1, 2])])
        self.refused(("split", row_of(-1, -2), (1, 1), [([-1, -2], 1)]), [wholeness([1, 2])])

    def test_parted(self):
        t = quotient_of(ONE, row_of(0, 0, -1, 1))
        claim, paper = paper_parted(t)
        word, t, row, found = claim
        self.taken(claim, paper)
        self.assertEqual([(part, often) for part, often, top in found], [([-1, 1], 1), ([0, 1], 1), ([0, 1], 2)])
        self.refused(("parted", t, row, found), paper[::-1])
        self.refused(("parted", t, row, found), paper + paper[1:])
        self.refused(("parted", t, row, found), [paper[0], paper[1], paper[1]])
        self.refused(("parted", t, row, found[::-1]), paper[::-1])
        self.refused(("parted", t, row, [found[0], found[2], found[1]]), paper)
        self.refused(("parted", t, row, found[:2]), paper)
        self.refused(("parted", t, ONE, found), paper)
        self.refused(("parted", t, row, [found[0], found[2]]), paper)
        halves = [found[0], ([0, 1], 1, row_of(-HALF)), ([0, 1], 1, row_of(-HALF)), found[2]]
        self.refused(("parted", t, row, halves), paper)
        # Parts of a product that has the bottom's degree, but is another one.
        self.refused(("parted", (ONE, row_of(0, 0, 1)), [], [([1, 1], 2, ONE)]), [wholeness([1, 1])])
        two = quotient_of(ONE, row_of(-1, 0, 1))
        self.refused(("parted", two, [], [([-1, 0, 1], 1, ONE)]), [lifted_parts([-1, 0, 1])])
        # The quotient itself not in lowest terms, or its bottom not monic.
        self.refused(("parted", (X, row_of(0, 0, 1)), [], [([0, 1], 1, ONE)]), [wholeness([0, 1])])
        self.refused(("parted", (ONE, row_of(0, 2)), [], [([0, 1], 1, row_of(HALF))]), [wholeness([0, 1])])
        self.taken(("parted", NOUGHT, [], []), [])
        self.refused(("parted", NOUGHT, [], []), [wholeness([0, 1])])


class ExpressionsTest(UntrueTest):
    def test_same(self):
        self.taken(("same", "x / x", "1"), None)
        self.taken(("same", "(x + y)^2", "x^2 + 2 * x * y + y^2"), None)
        for one, other in (
            ("x", "y"), ("x", "x + 0 * y + 1"), ("1 / 0", "1 / 0"), ("x / (x - x)", "x / (x - x)"), ("1", "1 / 0"),
            ("x+1", "x+1"), ("", ""), ("X", "X"), ("x^13", "x^13"), ("(x", "(x"), (" x", " x"), ("x\n", "x\n"), ("01", "1"),
        ):
            self.refused(("same", one, other), None)
            self.refused(("same", other, one), None)

    def test_unlike(self):
        one, other = "1 / x", "y"
        good = [("x", (1, 1)), ("y", (2, 1))]
        self.taken(("unlike", one, other), good)
        self.taken(("unlike", "1", "2"), [])
        self.taken(("unlike", "x^0", "0"), [("x", (0, 1))])
        for bad in (
            good[::-1], good[:1], good[1:], [], good + good, good + [("z", (1, 1))], [("a", (1, 1))] + good,
            [("x", (0, 1)), ("y", (2, 1))], [("x", (1, 1)), ("y", (1, 1))], [("x", (1, 1)), ("x", (1, 1)), ("y", (2, 1))],
            [["x", (1, 1)], ("y", (2, 1))], [("x", (2, 2)), ("y", (2, 1))], [("x", 1), ("y", 2)], dict(good), tuple(good),
        ):
            self.refused(("unlike", one, other), bad)
        for point in ([("x", (0, 1)), ("y", (2, 1))], [("x", (1, 1)), ("y", (1, 1))]):
            self.refused(("unlike", other, one), point)
        self.taken(("unlike", other, one), good)
        self.refused(("unlike", "x", "x"), [("x", (1, 1))])
        self.refused(("unlike", "1 / 0", "1"), [])
        self.refused(("unlike", "x / (x - x)", "1"), [("x", (1, 1))])
        self.refused(("unlike", "1", "1"), [])
        self.refused(("unlike", "1", "2"), [("x", (1, 1))])
        self.refused(("unlike", "x+1", "2"), [("x", (2, 1))])
        self.refused(("unlike", "2", ""), [])
        self.refused(("unlike", "x", "2"), [("", (5, 1))])


class SignTest(UntrueTest):
    def test_sign(self):
        shown = wholeness([-2, 0, 1])
        f = row_of(-3, 2)
        self.taken(("sign", f, ROOT_2, -1), (shown, (1, 1), (71, 50)))
        for s in (0, 1, -2, 2):
            self.refused(("sign", f, ROOT_2, s), (shown, (1, 1), (71, 50)))
        # The root of f is in the stretch, at its low end, at its high end.
        self.refused(("sign", f, ROOT_2, -1), (shown, (1, 1), (2, 1)))
        self.refused(("sign", f, ROOT_2, 1), (shown, (1, 1), (2, 1)))
        self.refused(("sign", row_of(-1, 1), ROOT_2, 1), (shown, (1, 1), (2, 1)))
        self.taken(("sign", row_of(-1, 1), ROOT_2, 1), (shown, (11, 10), (2, 1)))
        self.refused(("sign", row_of(-2, 1), ROOT_2, -1), (shown, (1, 1), (2, 1)))
        # A root twice is none of less, and two roots in the stretch leave the signs at its ends alike.
        self.refused(("sign", power(row_of(-3, 2), 2), ROOT_2, 1), (shown, (1, 1), (2, 1)))
        self.refused(("sign", row_times(row_of(-3, 2), row_of(-5, 3)), ROOT_2, 1), (shown, (1, 1), (2, 1)))
        # No stretch of this root.
        for low, high in (((-2, 1), (2, 1)), ((-2, 1), (0, 1)), ((3, 1), (4, 1)), ((2, 1), (1, 1)), ((1, 1), (1, 1))):
            self.refused(("sign", ONE, ROOT_2, 1), (shown, low, high))
        self.taken(("sign", ONE, ROOT_2, 1), (shown, (0, 1), (99, 1)))
        self.taken(("sign", ONE, ([-2, 0, 1], 0), 1), (shown, (-99, 1), (0, 1)))
        self.refused(("sign", ONE, ([-2, 0, 1], 2), 1), (shown, (0, 1), (99, 1)))

    def test_sign_0(self):
        shown = wholeness([-2, 0, 1])
        self.taken(("sign", [], ROOT_2, 0), (shown, (1, 1), (2, 1)))
        self.taken(("sign", row_of(0, -2, 0, 1), ROOT_2, 0), (shown, (1, 1), (2, 1)))
        self.refused(("sign", row_of(0, -2, 0, 1), ROOT_2, 1), (shown, (1, 1), (2, 1)))
        self.refused(("sign", row_of(-3, 2), ROOT_2, 0), (shown, (1, 1), (2, 1)))
        self.refused(("sign", [], ROOT_2, 0), (shown, (3, 1), (4, 1)))
        self.refused(("sign", [], ([1, 0, 1], 0), 0), (wholeness([1, 0, 1]), (0, 1), (1, 1)))

    def test_a_root_at_an_end(self):
        shown = wholeness([-1, 1])
        self.taken(("sign", X, ([-1, 1], 0), 1), (shown, (1, 2), (1, 1)))
        self.refused(("sign", X, ([-1, 1], 0), 1), (shown, (1, 1), (2, 1)))

    def test_a_row_that_splits_has_no_such_roots(self):
        self.refused(("sign", ONE, ([-1, 0, 1], 1), 1), (lifted_parts([-1, 0, 1]), (0, 1), (2, 1)))
        self.refused(("sign", ONE, ([-4, 0, 2], 1), 1), (wholeness([-2, 0, 1]), (0, 1), (2, 1)))
        claim, paper = paper_sign(ONE, ROOT_2)
        self.refused(claim, (wholeness([-3, 0, 1]),) + paper[1:])


class TogetherTest(UntrueTest):
    def setUp(self):
        self.claim, self.paper = paper_plus(ROOT_2, ROOT_3)
        self.shown, self.row, self.stretches = self.paper

    def test_the_paper_as_told(self):
        self.taken(self.claim, self.paper)
        self.taken(self.claim, (self.shown, row_times(self.row, row_of(5, 3)), self.stretches))
        self.taken(self.claim, (self.shown, power(self.row, 2), self.stretches))

    def test_other_sums(self):
        word, a, b, c = self.claim
        for other in range(4):
            root = (c[0], other)
            for low, high in ((-4, -2), (-2, 0), (0, 1), (1, 4)):
                third = [self.stretches[0], self.stretches[1], stretch(low, high)]
                if other != c[1]:
                    self.refused(("plus", a, b, root), (self.shown, self.row, third))
        self.refused(("times", a, b, c), self.paper)
        self.refused(("plus", a, b, ([-6, 0, 1], 1)), self.paper)
        self.refused(("plus", b, a, c), self.paper)
        # In the stretch of the sum there is this root, too; but the row isn't 0 at it.
        near = [stretch(1, 2), stretch(1, 2), stretch(1, 4)]
        for root in (([-3, 1], 0), ([-10, 0, 1], 1)):
            self.refused(("plus", a, b, root), (self.shown[:2] + [wholeness(root[0])], self.row, near))
        self.refused(("plus", (a[0], 0), b, c), self.paper)
        self.refused(("plus", a, b, (c[0], c[1] + 1)), self.paper)

    def test_the_row(self):
        for row in ([], ONE, row_of(5), row_of(-10, 0, 1), sum_row([-2, 0, 1], [-5, 0, 1]), [(1, 2)] + self.row):
            self.refused(self.claim, (self.shown, row, self.stretches))
        product = row_times(self.row, product_row([-2, 0, 1], [-3, 0, 1]))
        wide = [stretch(1, 2), stretch(1, 2), stretch(1, 4)]
        self.taken(self.claim, (self.shown, self.row, wide))
        # The root of 6 is in this stretch, too.
        self.refused(self.claim, (self.shown, product, wide))

    def test_the_stretches(self):
        first, second, third = self.stretches
        for bad in (
            [first, second], [first, second, third, third], [second, first, third], [first, second, stretch(-9, 9)],
            [stretch(0, 9), second, third], [first, stretch(0, 9), third], [first, second, stretch(3, 4)], [],
            [stretch(-9, 9), second, third], [first, stretch(-9, -1), third], [stretch(1, 2), stretch(1, 2), stretch(2, 4)],
        ):
            self.refused(self.claim, (self.shown, self.row, bad))
        self.taken(self.claim, (self.shown, self.row, [stretch(1, 2), stretch(1, 2), stretch(Fraction(199, 100), 4)]))

    def test_the_wholenesses(self):
        for bad in (self.shown[:2], self.shown + self.shown[:1], self.shown[::-1], [self.shown[0]] * 3, []):
            self.refused(self.claim, (bad, self.row, self.stretches))

    def test_rows_that_split(self):
        # The root 1 of x^2 - 1, and of its sum with the root of 2 a row that splits.
        shown = [lifted_parts([-1, 0, 1]), wholeness([-2, 0, 1]), wholeness([-1, -2, 1])]
        row = sum_row([-1, 0, 1], [-2, 0, 1])
        found = [stretch(HALF, 1), stretch(Fraction(7, 5), Fraction(3, 2)), stretch(Fraction(3, 2), Fraction(5, 2))]
        self.refused(("plus", ([-1, 0, 1], 1), ROOT_2, ([-1, -2, 1], 1)), (shown, row, found))
        shown[0] = wholeness([-1, 1])
        self.taken(("plus", ([-1, 1], 0), ROOT_2, ([-1, -2, 1], 1)), (shown, row, found))

    def test_products(self):
        shown = [wholeness([-2, 0, 1])] * 2 + [wholeness([-2, 1])]
        found = [stretch(1, 2), stretch(1, 2), stretch(HALF, 4)]
        self.taken(("times", ROOT_2, ROOT_2, ([-2, 1], 0)), (shown, row_of(-4, 0, 1), found))
        self.refused(("times", ROOT_2, ROOT_2, ([-2, 1], 0)), (shown, row_of(-2, 1), found))
        self.refused(("times", ROOT_2, ROOT_2, ([2, 1], 0)), ([shown[0]] * 2 + [wholeness([2, 1])], row_of(-4, 0, 1), found))
        self.refused(("times", ROOT_2, ROOT_2, ([-2, 1], 0)), (shown, row_of(-4, 0, 1), found[:2] + [stretch(1, 4)]))
        self.refused(("times", ROOT_2, ROOT_2, ([-2, 1], 0)), (shown, row_of(-4, 0, 1), found[:2] + [stretch(-3, 4)]))
        nought = wholeness([0, 1])
        around = [stretch(-1, 1), stretch(1, 2), stretch(-3, 3)]
        self.taken(("times", ([0, 1], 0), ROOT_2, ([0, 1], 0)), ([nought, shown[0], nought], X, around))
        self.refused(("times", ([0, 1], 0), ROOT_2, ([0, 1], 0)), ([nought, shown[0], nought], X, around[:2] + [stretch(-2, 2)]))


class QuotientsTest(UntrueTest):
    def test_sum_and_area(self):
        t = quotient_of(ONE, row_of(0, 1, 1))
        found = (row_of(-1), X)
        self.taken(("sum", t, found), None)
        self.taken(("sum", t, (row_of(-1, 7), X)), None)
        self.refused(("area", t, found), None)
        self.taken(("area", (ONE, row_of(0, 0, 1)), found), None)
        self.refused(("sum", (ONE, row_of(0, 0, 1)), found), None)
        self.refused(("sum", t, (ONE, X)), None)
        self.refused(("sum", t, NOUGHT), None)
        # Quotients that aren't in lowest terms, or not monic below.
        self.refused(("sum", t, (row_of(0, -1), row_of(0, 0, 1))), None)
        self.refused(("sum", t, (row_of(-2), row_of(0, 2))), None)
        self.refused(("sum", (X, row_of(0, 0, 1, 1)), found), None)
        self.taken(("sum", NOUGHT, NOUGHT), None)
        self.taken(("sum", NOUGHT, (row_of(5), ONE)), None)
        self.refused(("sum", NOUGHT, (X, ONE)), None)
        self.refused(("area", NOUGHT, ([], X)), None)

    def test_no_sum(self):
        nought, further = wholeness([0, 1]), wholeness([1, 1])
        reciprocal = (ONE, X)
        self.taken(("no sum", reciprocal), (NOUGHT, reciprocal, [([0, 1], 1, nought)]))
        t = quotient_of(ONE, row_of(0, 1, 1))
        # 1 / (x^2 + x) has a sum: its parts are one the other moved.
        self.refused(("no sum", t), (NOUGHT, t, [([0, 1], 1, nought), ([1, 1], 1, further)]))
        self.refused(("no sum", t), (NOUGHT, t, [([0, 1, 1], 1, lifted_parts([0, 1, 1]))]))
        self.refused(("no sum", t), ((row_of(-1), X), NOUGHT, []))
        row = (row_of(0, 1), ONE)
        self.refused(("no sum", row), (NOUGHT, row, []))
        self.refused(("no sum", NOUGHT), (NOUGHT, NOUGHT, []))
        # An r with a top that is too high, or parts that are told twice, or not at all, or too often.
        for top in (row_of(1, 1), row_of(1, 0, 1)):
            high = quotient_of(top, X)
            self.refused(("no sum", high), (NOUGHT, high, [([0, 1], 1, nought)]))
        square = (ONE, row_of(0, 0, 1))
        self.taken(("no sum", square), (NOUGHT, square, [([0, 1], 2, nought)]))
        self.refused(("no sum", square), (NOUGHT, square, [([0, 1], 1, nought), ([0, 1], 1, nought)]))
        self.refused(("no sum", square), (NOUGHT, square, []))
        self.refused(("no sum", square), (NOUGHT, square, [([0, 1], 1, nought)]))
        self.refused(("no sum", square), (NOUGHT, square, None))
        self.refused(("no sum", square), (NOUGHT, square, [([0, 1], 2, further)]))
        self.refused(("no sum", square), (NOUGHT, square, [([1, 1], 2, further)]))
        self.refused(("no sum", square), (NOUGHT, reciprocal, [([0, 1], 1, nought)]))

    def test_no_sum_of_far_moves(self):
        for part in ([0, 1], [1, 0, 1], [-2, 0, 0, 3]):
            for way in (1, -1, 21, 10 ** 9):
                moved = [number[0] for number in row_moved(row_of(*part), (way, 1))]
                bottom = row_times(row_of(*part), row_of(*moved))
                t = quotient_of(ONE, bottom)
                shown = [(part, 1, wholeness(part)), (moved, 1, wholeness(moved))]
                self.refused(("no sum", t), (NOUGHT, t, shown))
                self.refused(("no sum", t), (NOUGHT, t, shown[::-1]))
        # Moved by no whole number: there is none.
        for one, other in (([0, 1], [1, 2]), ([1, 3], [2, 3]), ([0, 1], [1, 3]), ([1, 0, 1], [2, 0, 1])):
            t = quotient_of(ONE, row_times(row_of(*one), row_of(*other)))
            shown = [(one, 1, wholeness(one)), (other, 1, wholeness(other))]
            self.taken(("no sum", t), (NOUGHT, t, shown))
            self.taken(("no sum", t), (NOUGHT, t, shown[::-1]))

    def test_no_sum_with_a_part_of_it(self):
        claim, paper = paper_sum(quotient_of(row_of(1, 1), row_of(0, 3, 1)))
        self.taken(claim, paper)
        found, r, shown = paper
        self.refused(claim, (NOUGHT, r, shown))
        self.refused(claim, (r, found, shown))
        self.refused(("no area", claim[1]), paper)

    def test_no_area(self):
        reciprocal, square = (ONE, X), (ONE, row_of(0, 0, 1))
        self.taken(("no area", reciprocal), (NOUGHT, reciprocal, None))
        self.taken(("no area", reciprocal), ((row_of(5), ONE), reciprocal, None))
        self.refused(("no area", square), (NOUGHT, square, None))
        self.refused(("no area", square), ((row_of(-1), X), NOUGHT, None))
        self.refused(("no area", reciprocal), (NOUGHT, reciprocal, []))
        self.refused(("no area", reciprocal), (NOUGHT, reciprocal, [([0, 1], 1, wholeness([0, 1]))]))
        self.refused(("no area", (X, ONE)), (NOUGHT, (X, ONE), None))
        self.refused(("no area", NOUGHT), (NOUGHT, NOUGHT, None))
        self.refused(("no area", (row_of(1, 1), X)), (NOUGHT, (row_of(1, 1), X), None))
        high = quotient_of(row_of(1, 0, 1), X)
        self.refused(("no area", high), (NOUGHT, high, None))
        self.taken(("no area", high), ((row_of(0, 0, HALF), ONE), reciprocal, None))
        self.taken(("no area", quotient_of(ONE, row_of(0, 1, 1))), (NOUGHT, quotient_of(ONE, row_of(0, 1, 1)), None))
        many = quotient_of(ONE, row_of(0, 0, 1, 0, 1))
        self.refused(("no area", many), (NOUGHT, many, None))


if __name__ == "__main__":
    unittest.main()
