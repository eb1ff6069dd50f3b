"""Polynomials in names: dicts from products of powers of names to fractions that aren't 0."""

from paperwright.errors import NoValue
from paperwright.fractions import fraction, negated, plus, power, times
from paperwright.wholes import cleared


def poly_plus(one, other):
    told = dict(one)
    for product, number in other.items():
        total = plus(told.get(product, (0, 1)), number)
        if total == (0, 1):
            told.pop(product)
        else:
            told[product] = total
    return told


def poly_negated(poly):
    told = {}
    for product, number in poly.items():
        told[product] = negated(number)
    return told


def poly_minus(one, other):
    return poly_plus(one, poly_negated(other))


# The sums are kept over one bottom, so that each told number is brought to lowest terms once.
def poly_times(one, other):
    numbers, bottom = cleared(list(one.values()))
    other_numbers, other_bottom = cleared(list(other.values()))
    sums = {}
    for product, number in zip(one, numbers):
        for factor, by in zip(other, other_numbers):
            both = joined_products(product, factor)
            sums[both] = sums.get(both, 0) + number * by
    told = {}
    for product, number in sums.items():
        if number != 0:
            told[product] = fraction(number, bottom * other_bottom)
    return told


def joined_products(one, other):
    exponents = dict(one)
    for name, exponent in other:
        exponents[name] = exponents.get(name, 0) + exponent
    return tuple(sorted(exponents.items()))


def poly_power(poly, exponent):
    told = poly_of_number(1)
    for step in range(exponent):
        told = poly_times(told, poly)
    return told


def poly_of_number(number):
    if number == 0:
        return {}
    return {(): (number, 1)}


def poly_of_name(name):
    return {((name, 1),): (1, 1)}


def poly_value(poly, point):
    total = (0, 1)
    for product, number in poly.items():
        for name, exponent in product:
            number = times(number, power(number_at(name, point), exponent))
        total = plus(total, number)
    return total


def number_at(name, point):
    if name not in point:
        raise NoValue(f"the point has no {name}")
    return point[name]


# The polynomial in the other names that comes of a whole number in the place of a name.
def poly_with(poly, name, number):
    told = {}
    for product, factor in poly.items():
        left = []
        for other, exponent in product:
            if other == name:
                factor = times(factor, power((number, 1), exponent))
            else:
                left.append((other, exponent))
        if factor != (0, 1):
            told = poly_plus(told, {tuple(left): factor})
    return told
