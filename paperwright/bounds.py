"""The bound of a wholeness: how great the numbers of a whole row's parts may be, and the exponent it asks for."""

from paperwright.fractions import fraction, plus, under
from paperwright.wholes import whole_times, whole_value


# The first of 0, 1, -1, 2, -2, .. at which the row isn't 0.
def points(whole, many):
    told = []
    point = 0
    while len(told) < many:
        if whole_value(whole, point, 1) != 0:
            told.append(point)
        point = -point if point > 0 else 1 - point
    return told


def part_bound(whole):
    places = points(whole, (len(whole) - 1) // 2 + 1)
    total = (0, 1)
    for place in places:
        peak, bottom = basis_peak(place, places)
        total = plus(total, fraction(abs(whole_value(whole, place, 1)) * peak, bottom))
    return total


# A tuple (top, bottom): the greatest size among the numbers of the row that is 1 at the place and 0 at the others.
def basis_peak(place, places):
    numbers = [1]
    bottom = 1
    for other in places:
        if other != place:
            numbers = whole_times(numbers, [-other, 1])
            bottom = bottom * (place - other)
    return (max([abs(number) for number in numbers]), abs(bottom))


# The least exponent from 1 on by which the prime's power is above twice the last number times the bound.
def least_exponent(whole, prime):
    top, bottom = part_bound(whole)
    least = fraction(2 * whole[-1] * top, bottom)
    exponent = 1
    power = prime
    while not under(least, (power, 1)):
        exponent = exponent + 1
        power = power * prime
    return exponent
