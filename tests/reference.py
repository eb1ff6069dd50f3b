"""A plain second reckoning by Python's own fractions, and what many tests ask alike."""

import copy
import random
from fractions import Fraction

from paperwright import errors

REFUSALS = ("NoNumber", "NoValue", "NoText", "NoRoot", "NoRow", "TooFar", "NoLine")


def to_fraction(number):
    return Fraction(number[0], number[1])


def from_fraction(number):
    number = Fraction(number)
    return (number.numerator, number.denominator)


def row_of(*numbers):
    return [from_fraction(number) for number in numbers]


def trimmed(numbers):
    numbers = list(numbers)
    while numbers and numbers[-1] == 0:
        numbers.pop()
    return numbers


def added(one, other):
    length = max(len(one), len(other))
    one = list(one) + [0] * (length - len(one))
    other = list(other) + [0] * (length - len(other))
    return trimmed([a + b for a, b in zip(one, other)])


def multiplied(one, other):
    told = [Fraction(0)] * max(len(one) + len(other) - 1, 0)
    for i, a in enumerate(one):
        for j, b in enumerate(other):
            told[i + j] += a * b
    return trimmed(told)


def value(row, at):
    return sum((number * at ** power for power, number in enumerate(row)), Fraction(0))


def determinant(table):
    table = [list(line) for line in table]
    told = Fraction(1)
    for column in range(len(table)):
        pivots = [line for line in range(column, len(table)) if table[line][column] != 0]
        if not pivots:
            return Fraction(0)
        if pivots[0] != column:
            table[column], table[pivots[0]] = table[pivots[0]], table[column]
            told = -told
        told *= table[column][column]
        for line in range(column + 1, len(table)):
            by = table[line][column] / table[column][column]
            table[line] = [a - by * b for a, b in zip(table[line], table[column])]
    return told


def resultant_table(one, other):
    m, n = len(one) - 1, len(other) - 1
    lines = [[Fraction(0)] * i + one[::-1] + [Fraction(0)] * (n - 1 - i) for i in range(n)]
    return lines + [[Fraction(0)] * i + other[::-1] + [Fraction(0)] * (m - 1 - i) for i in range(m)]


def random_row(source, degree, top, bottom):
    numbers = [Fraction(source.randint(-top, top), source.randint(1, bottom)) for _ in range(degree)]
    return row_of(*numbers, Fraction(source.randint(1, top), source.randint(1, bottom)))


def is_fraction(number):
    return (
        type(number) is tuple and len(number) == 2 and all(type(part) is int for part in number)
        and number[1] >= 1 and from_fraction(Fraction(*number)) == number
    )


def is_row(row):
    return type(row) is list and all(map(is_fraction, row)) and (not row or row[-1] != (0, 1))


def source(seed):
    return random.Random(seed)


def refused(test, name, call, *handed):
    """The call is refused with the class of this name, and with that one alone."""
    with test.assertRaises(errors.HouseError) as caught:
        call(*handed)
    test.assertIs(type(caught.exception), getattr(errors, name))


def lists_in(told):
    """Every list that is told, however deep within tuples and lists it stands."""
    found = [told] if isinstance(told, list) else []
    for part in told if isinstance(told, (list, tuple)) else ():
        found += lists_in(part)
    return found


def owned(test, call, *handed):
    """Nothing handed in is changed, and no list that is told is shared with anything else."""
    before = copy.deepcopy(handed)
    told = call(*handed)
    expected = copy.deepcopy(told)
    for part in lists_in(told):
        part.append("spoilt")
        test.assertEqual(part.count("spoilt"), 1)
    test.assertEqual(handed, before)
    test.assertEqual(call(*handed), expected)
