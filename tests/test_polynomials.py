"""Point 8: polynomials in names."""

import copy
import unittest
from fractions import Fraction

import trees
from paperwright.polynomials import poly_minus, poly_of_number, poly_plus, poly_power, poly_times, poly_value, poly_with
from reference import from_fraction, is_fraction, refused, source, to_fraction

X, Y = (("x", 1),), (("y", 1),)
ONE = {(): (1, 1)}
POLYS = [
    {}, ONE, {(): (-2, 3)}, {X: (1, 1)}, {X: (1, 1), (): (1, 1)}, {X: (1, 1), (): (-1, 1)}, {X: (-1, 1), (): (1, 1)},
    {X: (1, 1), Y: (-1, 1)}, {X: (1, 1), Y: (1, 1)}, {(("x", 2),): (1, 2), (("x", 1), ("y", 3)): (-3, 4)},
    {(("a", 1),): (1, 1), (("ab", 1),): (2, 1), (("abc", 2),): (3, 1)}, {(("a", 1), ("ab", 2)): (1, 3)},
    {(("ab", 1), ("b", 1)): (5, 1)}, {(("x", 12),): (10 ** 30, 1), (): (1, 10 ** 30)},
    {(("x", 5), ("y", 5), ("z", 5)): (-(10 ** 30), 10 ** 30 - 1), (("z", 1),): (7, 1)},
]
POINT = {"x": (1, 2), "y": (-3, 1), "z": (10 ** 30, 7), "a": (0, 1), "ab": (2, 3), "abc": (-1, 1), "b": (5, 1)}


def plain(poly):
    return {product: to_fraction(number) for product, number in poly.items()}


def told_form(poly):
    return {product: from_fraction(number) for product, number in poly.items()}


def is_poly(poly):
    return type(poly) is dict and all(
        type(product) is tuple and all(type(part) is tuple and part[1] >= 1 for part in product)
        and [part[0] for part in product] == sorted({part[0] for part in product})
        and is_fraction(number) and number[0] != 0
        for product, number in poly.items()
    )


class SumsAndProductsTest(unittest.TestCase):
    def agrees(self, one, other):
        a, b = plain(one), plain(other)
        for told, expected in (
            (poly_plus(one, other), trees.poly_plus(a, b)),
            (poly_minus(one, other), trees.poly_plus(a, b, -1)),
            (poly_times(one, other), trees.poly_times(a, b)),
        ):
            self.assertTrue(is_poly(told), told)
            self.assertEqual(told, told_form(expected))

    def test_edges(self):
        for one in POLYS:
            for other in POLYS:
                self.agrees(one, other)

    def test_many_terms(self):
        chance = source(21)
        for _ in range(20):
            polys = []
            for _ in range(2):
                poly = {}
                for _ in range(12):
                    product = tuple((name, chance.randint(1, 5)) for name in ("a", "ab", "b") if chance.random() < 0.6)
                    poly[product] = from_fraction(Fraction(chance.randint(1, 10 ** 30), chance.randint(1, 60)))
                polys.append(poly)
            self.agrees(polys[0], polys[1])

    def test_what_falls_out(self):
        self.assertEqual(poly_plus({X: (1, 1)}, {X: (-1, 1)}), {})
        self.assertEqual(poly_minus({X: (1, 2), (): (1, 1)}, {X: (1, 2)}), ONE)
        square = poly_times({X: (1, 1), Y: (1, 1)}, {X: (1, 1), Y: (-1, 1)})
        self.assertEqual(square, {(("x", 2),): (1, 1), (("y", 2),): (-1, 1)})
        self.assertEqual(poly_times({}, {X: (1, 1)}), {})
        self.assertEqual(poly_times({X: (1, 1)}, {}), {})

    def test_names_rise_though_one_begins_another(self):
        told = poly_times({(("b", 1),): (1, 1)}, {(("ab", 2),): (1, 1)})
        told = poly_times(told, {(("a", 1),): (1, 1)})
        self.assertEqual(told, {(("a", 1), ("ab", 2), ("b", 1)): (1, 1)})

    def test_powers(self):
        for poly in POLYS[:9]:
            expected = ONE
            for exponent in range(5):
                self.assertEqual(poly_power(poly, exponent), expected)
                expected = poly_times(expected, poly)

    def test_of_numbers(self):
        self.assertEqual(poly_of_number(0), {})
        self.assertEqual(poly_of_number(4), {(): (4, 1)})


class ValueTest(unittest.TestCase):
    def test_values(self):
        for poly in POLYS:
            expected = Fraction(0)
            for product, number in plain(poly).items():
                for name, exponent in product:
                    number *= to_fraction(POINT[name]) ** exponent
                expected += number
            self.assertEqual(poly_value(poly, POINT), from_fraction(expected))

    def test_of_no_names_at_no_point(self):
        self.assertEqual(poly_value({}, {}), (0, 1))
        self.assertEqual(poly_value({(): (-2, 3)}, {}), (-2, 3))

    def test_a_missing_name_is_refused(self):
        for poly, point in (
            ({X: (1, 1)}, {}), ({X: (1, 1)}, {"y": (1, 1), "xx": (1, 1)}),
            ({(("x", 1), ("y", 1)): (1, 1)}, {"x": (0, 1)}), ({(("ab", 1),): (1, 1)}, {"a": (1, 1), "b": (1, 1)}),
        ):
            refused(self, "NoValue", poly_value, poly, point)

    def test_a_number_in_the_place_of_a_name(self):
        for poly in POLYS:
            for number in (-2, 0, 1, 3):
                told = poly_with(poly, "x", number)
                self.assertTrue(is_poly(told))
                self.assertFalse(any(name == "x" for product in told for name, exponent in product))
                point = dict(POINT)
                point["x"] = (number, 1)
                self.assertEqual(poly_value(told, POINT), poly_value(poly, point))


class OwnershipTest(unittest.TestCase):
    def test_nothing_handed_in_is_changed_and_all_told_is_new(self):
        for call in (poly_plus, poly_minus, poly_times):
            for one in POLYS:
                for other in POLYS + [one]:
                    before = copy.deepcopy((one, other))
                    told = call(one, other)
                    expected = dict(told)
                    told["spoilt"] = (1, 1)
                    self.assertEqual((one, other), before)
                    self.assertEqual(call(one, other), expected)

    def test_points_are_not_changed(self):
        before = dict(POINT)
        for poly in POLYS:
            poly_value(poly, POINT)
            self.assertEqual(POINT, before)


if __name__ == "__main__":
    unittest.main()
