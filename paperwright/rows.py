"""Rows: lists of fractions, the number of each power of x from the power 0 on, the last not 0."""

from paperwright.errors import NoNumber
from paperwright.fractions import fraction, negated, plus, times
from paperwright.numbers import raised
from paperwright.wholes import cleared, row_over, scaled, whole_divided, whole_moved, whole_times, whole_value


def row_plus(one, other):
    if len(one) < len(other):
        one, other = other, one
    told = list(one)
    for place, number in enumerate(other):
        told[place] = plus(told[place], number)
    while told != [] and told[-1] == (0, 1):
        told.pop()
    return told


def row_minus(one, other):
    return row_plus(one, [negated(number) for number in other])


def row_times(one, other):
    numbers, bottom = cleared(one)
    other_numbers, other_bottom = cleared(other)
    return row_over(whole_times(numbers, other_numbers), bottom * other_bottom)


def divided(one, other):
    if other == []:
        raise NoNumber("division by the row 0")
    numbers, bottom = cleared(one)
    other_numbers, other_bottom = cleared(other)
    quotient, rest, scale = whole_divided(numbers, other_numbers)
    bottom = bottom * scale
    return (row_over(scaled(quotient, other_bottom), bottom), row_over(rest, bottom))


def row_value(row, at):
    if row == []:
        return (0, 1)
    numbers, bottom = cleared(row)
    top, part = at
    return fraction(whole_value(numbers, top, part), bottom * raised(part, len(row) - 1))


def slope(row):
    return [times((power, 1), number) for power, number in enumerate(row)][1:]


def row_moved(row, by):
    numbers, bottom = cleared(row)
    top, part = by
    last = len(numbers) - 1
    moved = whole_moved(numbers, top, part)
    return [fraction(number, bottom * raised(part, last - place)) for place, number in enumerate(moved)]
