"""Sides: whether two expressions are the same, and else a point at which they aren't."""

from paperwright.expressions import quotient_with_divisors
from paperwright.polynomials import poly_minus, poly_times, poly_with


def parting(one, other):
    top, bottom, divisors = quotient_with_divisors(one)
    other_top, other_bottom, other_divisors = quotient_with_divisors(other)
    apart = poly_minus(poly_times(top, other_bottom), poly_times(other_top, bottom))
    if apart == {}:
        return None
    # Where none of these is 0, both expressions have values and these are unlike.
    polys = [apart] + list(divisors) + list(other_divisors)
    point = {}
    for name in sorted(one.names() + other.names()):
        if name not in point:
            number = parting_number(polys, name)
            point[name] = (number, 1)
            polys = [poly_with(poly, name, number) for poly in polys]
    return point


# A polynomial that isn't 0 becomes 0 by no more numbers than its power of the name, so one is found.
def parting_number(polys, name):
    number = 0
    while any([poly_with(poly, name, number) == {} for poly in polys]):
        number = 1 - number if number <= 0 else -number
    return number
