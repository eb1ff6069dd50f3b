"""Point 11: which texts are read, and which are refused."""

import itertools
import unittest

import trees
from paperwright.expressions import Expression
from paperwright.reading import read
from reference import refused, source


def steps(text):
    return read(text).steps


class ReadTest(unittest.TestCase):
    def test_what_is_read_is_an_expression(self):
        for text in ("0", "7", "10", "x", "abcdefgh", "x + y", "x - y", "x * y", "x / y", "x^0", "x^12", "7^2", "(x)^2",
                     "-x", "--x", "-x^2", "-(x)", "x - -y", "x * -y", "x + --y", "((((x))))", "0^0", "(x + y) * (x - y)",
                     "x / y / z * u", "-7 + x", "-0"):
            with self.subTest(text=text):
                self.assertIsInstance(read(text), Expression)

    def test_both_are_read_from_the_left(self):
        self.assertEqual(steps("x - y + z"), steps("(x - y) + z"))
        self.assertNotEqual(steps("x - y + z"), steps("x - (y + z)"))
        self.assertEqual(steps("x / y * z"), steps("(x / y) * z"))
        self.assertNotEqual(steps("x / y * z"), steps("x / (y * z)"))
        self.assertEqual(steps("x + y * z - u / v"), steps("(x + (y * z)) - (u / v)"))

    def test_a_minus_is_ahead_of_a_whole_factor(self):
        self.assertEqual(steps("-x^2"), steps("-(x^2)"))
        self.assertNotEqual(steps("-x^2"), steps("(-x)^2"))
        self.assertEqual(steps("-x * y"), steps("(-x) * y"))
        self.assertEqual(steps("--x"), steps("-(-x)"))

    def test_random_texts(self):
        chance = source(41)
        for _ in range(200):
            tree = trees.random_tree(chance, 4, ["x", "y", "xy"])
            text = trees.full_text(tree)
            if len(text) <= 1000:
                self.assertEqual(steps(text), steps(f"({text})"))


class RefusedTest(unittest.TestCase):
    def refuses(self, *texts):
        for text in texts:
            with self.subTest(text=text[:60]):
                refused(self, "NoText", read, text)

    def test_what_is_no_expression(self):
        self.refuses("", " ", "+", "-", "(", ")", "()", "^", "x +", "x + ", "+ x", " + x", "x y", "x  + y", "x +  y",
                     "x+y", "x +y", "x+ y", "x*y", "x/y", "x-y", "x -y", "x- y", "- x", "-- x", " x", "x ", "( x)",
                     "(x )", "(x", "x)", "((x)", "(x))", "x + * y", "x * / y", "x - + y", "x ^2", "x^ 2", "x^", "x^y",
                     "x^-2", "x^(2)", "x^2^3", "x**2", "2x", "x2", "2(x)", "(x)(y)", "(x)y", "x(y)", "x_y", "X", "xY",
                     "x.5", "1.5", "1,5", "x = y", "x;", "x\n", "\nx", "x +\ny", "x\n+ y", "x\t", "x + y -", "[x]",
                     "{x}", "x!", "~x", "\"x\"", "x - ", "--", "-", "x % y", "x // y", "x * * y", "x++y", "x + + y")

    def test_names(self):
        self.refuses("abcdefghi", "x + abcdefghijk", "Abc", "x1", "a_b")
        self.assertEqual(read("abcdefgh").names(), ["abcdefgh"])

    def test_numbers(self):
        self.assertEqual(read("9" * 30).value({}), (10 ** 30 - 1, 1))
        self.assertEqual(read("1" + "0" * 29).value({}), (10 ** 29, 1))
        self.refuses("9" * 31, "1" + "0" * 30, "00", "01", "007", "x + 01", "0" * 31, "00^2", "-01")

    def test_exponents(self):
        for exponent in range(13):
            self.assertEqual(read(f"2^{exponent}").value({}), (2 ** exponent, 1))
        self.refuses("x^13", "x^19", "x^99", "x^100", "x^120", "x^00", "x^01", "x^012", "x^0012", "x^1000", "(x^2)^13")

    def test_signs(self):
        exact = "xxxx" + " - 1" * 249
        self.assertEqual(len(exact), 1000)
        self.assertEqual(read(exact).names(), ["xxxx"])
        beyond = "xxxxx" + " - 1" * 249
        self.assertEqual(len(beyond), 1001)
        self.refuses(beyond, "x" + " + x" * 250, "(" * 1000, "-" * 1000, "x" * 1000, "1" * 100000)

    def test_brackets(self):
        self.assertEqual(read("(" * 30 + "x" + ")" * 30).names(), ["x"])
        self.refuses("(" * 31 + "x" + ")" * 31, "(" * 31, "x * " + "(" * 31 + "x" + ")" * 31)
        self.refuses("(x) * " + "(" * 31 + "x" + ")" * 31, "((x) + (y)) * " + "(" * 31 + "x" + ")" * 31)
        one_after_another = " + ".join(["(x)"] * 60)
        self.assertEqual(read(one_after_another).names(), ["x"])
        nested = "(x) * " * 20 + "(" * 30 + "x" + ")" * 30 + " * (x)" * 20
        self.assertEqual(read(nested).names(), ["x"])

    def test_minuses(self):
        self.assertEqual(read("-" * 30 + "x").value({"x": (2, 1)}), (2, 1))
        self.assertEqual(read("-" * 29 + "x").value({"x": (2, 1)}), (-2, 1))
        self.refuses("-" * 31 + "x", "-" * 31 + "(x)", "x * " + "-" * 31 + "x", "-" * 31 + "x^2", "-" * 31)
        several = " - ".join(["-" * 30 + "x"] * 20)
        self.assertEqual(read(several).names(), ["x"])
        self.assertEqual(read("x - " + "-" * 30 + "x").value({"x": (2, 1)}), (0, 1))
        within = "-" * 30 + "(" + "-" * 30 + "x)"
        self.assertEqual(read(within).value({"x": (2, 1)}), (2, 1))

    def test_all_short_texts(self):
        grammar = Grammar()
        for length in range(6):
            for signs in itertools.product("x0-^( )*", repeat=length):
                text = "".join(signs)
                if grammar.takes(text):
                    self.assertIsInstance(read(text), Expression)
                else:
                    self.refuses(text)


class Grammar:
    """The words of point 11 tried in every way, for short texts."""

    def takes(self, text):
        return self.is_sum(text)

    def is_sum(self, text):
        return self.is_term(text) or self.parts(text, (" + ", " - "), self.is_sum, self.is_term)

    def is_term(self, text):
        return self.is_factor(text) or self.parts(text, (" * ", " / "), self.is_term, self.is_factor)

    def parts(self, text, signs, left, right):
        return any(
            text[place:place + 3] in signs and left(text[:place]) and right(text[place + 3:])
            for place in range(len(text))
        )

    def is_factor(self, text):
        if text[:1] == "-":
            return self.is_factor(text[1:])
        base, sign, exponent = text.rpartition("^")
        if sign and self.is_whole(exponent) and int(exponent) <= 12 and self.is_atom(base):
            return True
        return self.is_atom(text)

    def is_whole(self, text):
        return text.isdigit() and (text == "0" or text[0] != "0")

    def is_atom(self, text):
        if self.is_whole(text) or (text.isalpha() and text.islower() and len(text) <= 8):
            return True
        return text[:1] == "(" and text[-1:] == ")" and len(text) > 1 and self.is_sum(text[1:-1])


class OwnershipTest(unittest.TestCase):
    def test_two_readings_are_two_expressions(self):
        one, other = read("x + 1"), read("x + 1")
        self.assertIsNot(one, other)
        one.quotient()[0].clear()
        one.names().clear()
        self.assertEqual(other.quotient(), ({(("x", 1),): (1, 1), (): (1, 1)}, {(): (1, 1)}))
        self.assertEqual(one.quotient(), other.quotient())


if __name__ == "__main__":
    unittest.main()
