"""Points 9 to 11: values, quotients, names and texts of expressions."""

import copy
import unittest
from fractions import Fraction

import trees
from paperwright.polynomials import poly_value
from paperwright.reading import read
from reference import from_fraction, is_fraction, refused, source

ONE = {(): (1, 1)}
NAMES = ["x", "y", "xy"]


def whole(number):
    return {(): (number, 1)} if number else {}


def random_trees(seed, many, depth, names=NAMES):
    chance = source(seed)
    return [trees.random_tree(chance, chance.randint(0, depth), names) for _ in range(many)]


def told_form(poly):
    return {product: from_fraction(number) for product, number in poly.items()}


class ValueTest(unittest.TestCase):
    def test_known_ones(self):
        point = {"x": (1, 2), "y": (-3, 1)}
        for text, expected in (
            ("7", (7, 1)), ("x", (1, 2)), ("x + y", (-5, 2)), ("x - y", (7, 2)), ("x * y", (-3, 2)), ("x / y", (-1, 6)),
            ("-x^2", (-1, 4)), ("(-x)^2", (1, 4)), ("--x", (1, 2)), ("---x", (-1, 2)), ("y^3", (-27, 1)),
            ("x - y - x", (3, 1)), ("x - (y - x)", (4, 1)), ("12 / 2 / 3", (2, 1)), ("12 / (2 / 3)", (18, 1)),
            ("2 * x^2 + 3 * -y", (19, 2)), ("x^12", (1, 4096)), ("x^0", (1, 1)), ("0^0", (1, 1)), ("(x - x)^0", (1, 1)),
            ("(x - x)^1", (0, 1)), ("0 * x", (0, 1)), ("6 / 4", (3, 2)),
        ):
            with self.subTest(text=text):
                self.assertEqual(read(text).value(point), expected)

    def test_a_power_with_the_exponent_0(self):
        self.assertEqual(read("x^0").value({"x": (0, 1)}), (1, 1))
        refused(self, "NoValue", read("x^0").value, {})
        refused(self, "NoValue", read("(1 / x)^0").value, {"x": (0, 1)})
        refused(self, "NoValue", read("(1 / 0)^0").value, {})

    def test_a_missing_name_is_refused(self):
        for text, point in (
            ("x", {}), ("x + y", {"x": (1, 1)}), ("0 * y", {"x": (1, 1)}), ("xy", {"x": (1, 1), "y": (1, 1)}),
            ("x", {"xx": (1, 1)}), ("xx", {"x": (1, 1)}), ("y - y", {}),
        ):
            with self.subTest(text=text):
                refused(self, "NoValue", read(text).value, point)

    def test_names_that_the_expression_lacks_do_not_matter(self):
        self.assertEqual(read("x + 1").value({"x": (1, 1), "y": (5, 1), "xx": (9, 1)}), (2, 1))
        self.assertEqual(read("3").value({"x": (1, 1)}), (3, 1))

    def test_a_bottom_of_0_within_is_refused(self):
        for text in ("1 / x", "0 / x", "x / x", "1 / (1 / x)", "0 * (1 / x)", "1 / (y - 1)", "(2 / (x * y)) - 1", "1 / 0"):
            with self.subTest(text=text):
                refused(self, "NoValue", read(text).value, {"x": (0, 1), "y": (1, 1)})

    def test_long_numbers(self):
        text = "9" * 30 + " * x + 1 / y"
        told = read(text).value({"x": (10 ** 30, 7), "y": (10 ** 30 - 1, 10 ** 30)})
        expected = (10 ** 30 - 1) * Fraction(10 ** 30, 7) + Fraction(10 ** 30, 10 ** 30 - 1)
        self.assertEqual(told, from_fraction(expected))

    def test_against_the_second_reckoning(self):
        chance = source(31)
        for tree in random_trees(32, 600, 4):
            point = {name: Fraction(chance.randint(-2, 2), chance.randint(1, 2)) for name in NAMES}
            given = {name: from_fraction(number) for name, number in point.items()}
            expression = read(trees.full_text(tree))
            try:
                expected = trees.value(tree, point)
            except trees.NoOutcome:
                refused(self, "NoValue", expression.value, given)
                continue
            told = expression.value(given)
            self.assertTrue(is_fraction(told))
            self.assertEqual(told, from_fraction(expected))


class QuotientTest(unittest.TestCase):
    def test_known_ones(self):
        x, y = (("x", 1),), (("y", 1),)
        for text, expected in (
            ("0", ({}, ONE)), ("7", (whole(7), ONE)), ("x", ({x: (1, 1)}, ONE)), ("2 / 2", (whole(2), whole(2))),
            ("x / x", ({x: (1, 1)}, {x: (1, 1)})), ("x - x", ({}, ONE)), ("0 / x", ({}, {x: (1, 1)})),
            ("x / 2 + y / 2", ({x: (2, 1), y: (2, 1)}, whole(4))), ("x / 2 - y / 3", ({x: (3, 1), y: (-2, 1)}, whole(6))),
            ("x / 2 * y / 3", ({(("x", 1), ("y", 1)): (1, 1)}, whole(6))),
            ("2 / 3 / (4 / 5)", (whole(10), whole(12))), ("(x / 2)^3", ({(("x", 3),): (1, 1)}, whole(8))),
            ("-(x / 2)", ({x: (-1, 1)}, whole(2))), ("x^0", (ONE, ONE)), ("0^0", (ONE, ONE)), ("(x / 3)^0", (ONE, ONE)),
            ("-0", ({}, ONE)), ("1 / (1 / x)", ({x: (1, 1)}, ONE)), ("x / -2", ({x: (1, 1)}, whole(-2))),
            ("(x + 1) * (x - 1)", ({(("x", 2),): (1, 1), (): (-1, 1)}, ONE)), ("0 / 5", ({}, whole(5))),
            ("x^12 / x^12", ({(("x", 12),): (1, 1)}, {(("x", 12),): (1, 1)})),
            ("1 / 2 + 1 / 2", (whole(4), whole(4))),
        ):
            with self.subTest(text=text):
                self.assertEqual(read(text).quotient(), expected)

    def test_a_quotient_by_what_has_the_top_0_is_refused(self):
        for text in ("1 / 0", "x / (x - x)", "0 / 0", "1 / (0 / x)", "1 / (x^2 - x * x)", "0 * (1 / 0)", "(1 / 0)^0",
                     "1 + 2 / (y * 0)", "1 / ((x + 1)^2 - x^2 - 2 * x - 1)", "1 / -0", "1 / (0^2)"):
            with self.subTest(text=text):
                refused(self, "NoValue", read(text).quotient)

    def test_against_the_second_reckoning(self):
        for tree in random_trees(33, 600, 4):
            expression = read(trees.full_text(tree))
            try:
                top, bottom = trees.quotient(tree)
            except trees.NoOutcome:
                refused(self, "NoValue", expression.quotient)
                continue
            told = expression.quotient()
            self.assertIs(type(told), tuple)
            self.assertEqual(told, (told_form(top), told_form(bottom)))

    def test_three_names_to_the_fifth_power(self):
        top, bottom = read("(x + y + z + 1)^5 / (x * y * z - 2)^5").quotient()
        self.assertEqual(len(top), 56)
        self.assertEqual(len(bottom), 6)
        point = {"x": (1, 2), "y": (3, 1), "z": (-2, 3)}
        self.assertEqual(poly_value(top, point), from_fraction(Fraction(23, 6) ** 5))
        self.assertEqual(poly_value(bottom, point), (-243, 1))


class NamesTest(unittest.TestCase):
    def test_rising_and_each_once(self):
        self.assertEqual(read("b + ab - a * b^2 / abc").names(), ["a", "ab", "abc", "b"])
        self.assertEqual(read("x - x + 0 * y^0").names(), ["x", "y"])
        self.assertEqual(read("(1 / 0) * x").names(), ["x"])
        self.assertEqual(read("1 + 2").names(), [])

    def test_against_the_second_reckoning(self):
        for tree in random_trees(34, 200, 4, ["a", "ab", "b", "ba"]):
            self.assertEqual(read(trees.full_text(tree)).names(), sorted(trees.names(tree)))


class ShownTest(unittest.TestCase):
    def test_brackets_that_are_needed(self):
        for text in (
            "x - (y - z)", "x - (y + z)", "x + (y + z)", "x + (y - z)", "x * (y + z)", "(x + y) * z", "x / (y / z)",
            "x / (y * z)", "x * (y / z)", "x * (y * z)", "(x + y)^2", "(x * y)^2", "(x^2)^3", "(-x)^2", "-(x + y)",
            "-(x * y)", "-(x / y)", "(x / y)^0", "x - (-y + z)", "-(x + y)^2", "((x^2)^3)^4", "x / (-y * z)",
        ):
            with self.subTest(text=text):
                self.assertEqual(read(text).shown(), text)

    def test_brackets_that_are_not_needed(self):
        for text, expected in (
            ("(x)", "x"), ("((7))", "7"), ("(x + y) + z", "x + y + z"), ("(x - y) - z", "x - y - z"),
            ("(x * y) * z", "x * y * z"), ("(x / y) / z", "x / y / z"), ("x + (y * z)", "x + y * z"),
            ("x - (y / z)", "x - y / z"), ("(x * y) + z", "x * y + z"), ("x * (y^2)", "x * y^2"), ("x * (-y)", "x * -y"),
            ("(-x) * y", "-x * y"), ("-(x^2)", "-x^2"), ("-(-x)", "--x"), ("x - (-y)", "x - -y"), ("(x)^2", "x^2"),
            ("(-x) + y", "-x + y"), ("(12)^2", "12^2"), ("x / (-y)", "x / -y"), ("(x + (y + z))", "x + (y + z)"),
            ("-(x)^2", "-x^2"), ("((x + y))^2", "(x + y)^2"), ("x^2 + (y)^12", "x^2 + y^12"),
        ):
            with self.subTest(text=text):
                self.assertEqual(read(text).shown(), expected)

    def test_just_those_brackets_without_which_it_is_another(self):
        for tree in random_trees(35, 500, 4):
            expression = read(trees.full_text(tree))
            text = expression.shown()
            self.assertEqual(read(text).steps, expression.steps)
            self.assertEqual(read(text).shown(), text)
            for without in texts_without_a_pair(text):
                try:
                    steps = read(without).steps
                except ValueError:
                    continue
                self.assertNotEqual(steps, expression.steps, (text, without))

    def test_minuses_beyond_those_that_are_read_have_no_brackets(self):
        inner = "-" * 30 + "x"
        self.assertEqual(read(f"-({inner})").shown(), "-" * 31 + "x")

    def test_long_sums(self):
        text = "x" + " - 1" * 249
        self.assertEqual(read(text).shown(), text)
        self.assertEqual(read("(" * 30 + text[:901] + ")" * 30).shown(), text[:901])


def texts_without_a_pair(text):
    waiting = []
    for place, sign in enumerate(text):
        if sign == "(":
            waiting.append(place)
        elif sign == ")":
            start = waiting.pop()
            yield text[:start] + text[start + 1:place] + text[place + 1:]


class DepthTest(unittest.TestCase):
    def test_long_sums_have_values_and_quotients(self):
        expression = read("x" + " - 1" * 249)
        self.assertEqual(expression.value({"x": (1, 2)}), (-497, 2))
        self.assertEqual(expression.quotient(), ({(("x", 1),): (1, 1), (): (-249, 1)}, ONE))
        self.assertEqual(expression.names(), ["x"])

    def test_many_minuses_within_many_brackets(self):
        text = ("-" * 30 + "(") * 30 + "x" + ")" * 30
        expression = read(text)
        self.assertEqual(expression.value({"x": (5, 1)}), (5, 1))
        self.assertEqual(expression.quotient(), ({(("x", 1),): (1, 1)}, ONE))
        self.assertEqual(expression.shown(), "-" * 900 + "x")

    def test_sums_within_brackets(self):
        text = "1 - (" * 30 + "x - 1" + ")" * 30
        self.assertEqual(read(text).shown(), text)
        self.assertEqual(read(text).value({"x": (3, 1)}), (2, 1))


class OwnershipTest(unittest.TestCase):
    def test_points_stay_and_what_is_told_is_the_askers_own(self):
        for text in ("0", "5", "x", "-x", "x / 1", "x * 1", "x^1", "x^0", "x + 0", "x / x", "-(x / y)", "1 / (1 / x)"):
            expression = read(text)
            point = {"x": (1, 2), "y": (3, 1), "z": (0, 1)}
            before = copy.deepcopy(point)
            value = expression.value(point)
            self.assertEqual(point, before)
            point["x"] = (9, 1)
            self.assertEqual(expression.value(before), value)
            top, bottom = expression.quotient()
            expected = copy.deepcopy((top, bottom))
            top["spoilt"] = (1, 1)
            self.assertNotIn("spoilt", bottom)
            bottom["spoilt too"] = (1, 1)
            self.assertEqual(expression.quotient(), expected)
            names = expression.names()
            kept = list(names)
            names.append("spoilt")
            self.assertEqual(expression.names(), kept)
            self.assertEqual(read(text).quotient(), expected)
            self.assertEqual(expression.shown(), read(text).shown())


if __name__ == "__main__":
    unittest.main()
