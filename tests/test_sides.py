"""Point 12: whether two expressions are the same, and else a point."""

import copy
import unittest

import trees
from paperwright.reading import read
from paperwright.sides import parting
from reference import is_fraction, refused, source


class SidesTest(unittest.TestCase):
    def same(self, one, other):
        self.assertIsNone(parting(read(one), read(other)), (one, other))
        self.assertIsNone(parting(read(other), read(one)), (other, one))

    def unlike(self, one, other):
        for left, right in ((one, other), (other, one)):
            first, second = read(left), read(right)
            point = parting(first, second)
            self.assertIs(type(point), dict)
            self.assertEqual(sorted(point), sorted(set(first.names() + second.names())))
            self.assertTrue(all(map(is_fraction, point.values())))
            self.assertNotEqual(first.value(point), second.value(point), (left, right, point))

    def test_the_same(self):
        for one, other in (
            ("x", "x"), ("x + y", "y + x"), ("(x + 1)^2", "x^2 + 2 * x + 1"), ("x / x", "1"), ("1 / (1 / x)", "x"),
            ("(x^2 - 1) / (x - 1)", "x + 1"), ("x - x", "0"), ("x - x", "y - y"), ("2 / 4", "1 / 2"), ("x^0", "1"),
            ("1 / x + 1 / y", "(x + y) / (x * y)"), ("(1 / x)^0", "y / y"), ("--x", "x"), ("-x^2", "-(x^2)"),
            ("(x + y + z)^5", "(z + y + x)^4 * (x + z + y)"), ("3", "1 + 1 + 1"), ("0 / x", "0 * y"), ("0^0", "1"),
            ("(x + 1)^12 / (x + 1)^11", "x + 1"), ("x / 3", "x * (1 / 3)"), ("(x - y) / (y - x)", "-1"),
        ):
            with self.subTest(one=one, other=other):
                self.same(one, other)

    def test_unlike(self):
        for one, other in (
            ("x", "y"), ("x", "x + 1"), ("x^2", "x"), ("-x^2", "(-x)^2"), ("1 / x", "x"), ("x / y", "y / x"), ("0", "x"),
            ("x - y", "y - x"), ("x^12", "x^11"), ("x", "xx"), ("a", "ab"), ("x + y + z", "x * y * z"), ("1", "2"),
            ("1 / 3", "33333 / 100000"), ("x^0", "x"), ("x - x", "1"), ("x * y", "x * y + z - z + 1"),
            ("9" * 30, "9" * 29 + "8"), ("x / " + "9" * 30, "0 * x"),
        ):
            with self.subTest(one=one, other=other):
                self.unlike(one, other)

    def test_of_no_names(self):
        self.assertEqual(parting(read("1"), read("2")), {})
        self.assertEqual(parting(read("1 / 2"), read("2 / 1")), {})
        self.assertIsNone(parting(read("1 / 2"), read("2 / 4")))

    def test_names_that_fall_out_stand_in_the_point(self):
        point = parting(read("x - x + 1"), read("0 * abc"))
        self.assertEqual(sorted(point), ["abc", "x"])

    def test_alike_at_many_small_whole_points(self):
        many = " * ".join(["x"] + [f"(x - {k}) * (x + {k})" for k in range(1, 6)])
        self.unlike(many, "0")
        self.unlike(f"{many} + x", "x")
        self.unlike(" * ".join(f"(x - {k})" for k in range(12)), "0")
        self.unlike(" * ".join(f"(x - {k})" for k in range(5)) + " * (y - 1) * (y + 1) * y * (y - 2)", "0 * z")
        self.unlike("x * (x - 1) * (x + 1) * (x - 2) * y * (y - 1) * (y + 1) * z * (z - 1) * (z + 1) * (z - 2)", "0")
        self.unlike("(x - y) * (x - z) * (y - z) * (x + y) * (x + z)", "0")

    def test_without_values_at_many_small_whole_points(self):
        many = " * ".join(["x"] + [f"(x - {k}) * (x + {k})" for k in range(1, 6)])
        self.unlike(f"1 / ({many})", "0")
        self.unlike(f"(1 / ({many}))^0", "2")
        self.unlike(f"1 / (1 / ({many}))", "1")
        powers = " + ".join(f"(1 / (x - {k}))^0" for k in range(45))
        self.unlike(powers, "x")
        further = " + ".join(f"(1 / (x + {k}))^0 * (1 / (y - {k}))^0" for k in range(25))
        self.unlike(powers, further)
        self.unlike("1 / (x * (x - 1) * (x + 1)) / (y * (y - 1) * (y + 1)) / (z * (z - 1) * (z + 1))", "1")
        self.unlike("1 / (x - y) + 1 / (x + y) + 1 / (x - z) + 1 / (y - z)", "0")

    def test_alike_on_one_side_and_without_values_on_the_other(self):
        one = " * ".join(f"(x - {k})" for k in range(0, 12, 2))
        other = " * ".join(f"(x - {k})" for k in range(1, 13, 2))
        self.unlike(f"({one}) / ({other})", f"0 / ({other})")
        self.unlike(f"1 / ({other}) + {one}", f"1 / ({other})")

    def test_long_sums(self):
        self.same("x" + " - 1" * 249, "x - 249")
        self.unlike("x" + " - 1" * 249, "x - 248")

    def test_random_pairs(self):
        chance = source(51)
        for _ in range(400):
            pair = [trees.random_tree(chance, chance.randint(1, 3), ["x", "y", "z"], 3, 2) for _ in range(2)]
            texts = [trees.full_text(tree) for tree in pair]
            try:
                (a, b), (c, d) = trees.quotient(pair[0]), trees.quotient(pair[1])
            except trees.NoOutcome:
                refused(self, "NoValue", parting, read(texts[0]), read(texts[1]))
                continue
            if trees.poly_plus(trees.poly_times(a, d), trees.poly_times(c, b), -1):
                self.unlike(texts[0], texts[1])
            else:
                self.same(texts[0], texts[1])

    def test_what_has_no_quotient_is_refused(self):
        for text in ("1 / 0", "x / (y - y)", "(1 / 0)^0", "0 * (1 / (x - x))"):
            for other in ("x", "1 / 0", "0"):
                refused(self, "NoValue", parting, read(text), read(other))
                refused(self, "NoValue", parting, read(other), read(text))

    def test_what_is_told_is_the_askers_own(self):
        one, other = read("x / y"), read("y")
        before = one.steps, other.steps
        point = parting(one, other)
        expected = copy.deepcopy(point)
        point["x"] = "spoilt"
        point.clear()
        self.assertEqual(parting(one, other), expected)
        self.assertEqual((one.steps, other.steps), before)


if __name__ == "__main__":
    unittest.main()
