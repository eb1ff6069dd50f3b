"""Whole rows: lists of whole numbers without a common divisor above 1, the last above 0, of degree 1 or more."""

from paperwright.divisors import primitive
from paperwright.errors import NoRow
from paperwright.fractions import fraction
from paperwright.wholes import scaled


def whole_row(row):
    if len(row) < 2:
        raise NoRow("a whole row of a row of degree 0 or of the row 0")
    numbers, bottom, content = primitive(row)
    if numbers[-1] < 0:
        return (fraction(-content, bottom), scaled(numbers, -1))
    return (fraction(content, bottom), numbers)
