"""Fractions: tuples (top, bottom) in lowest terms, the bottom from 1 on."""

from paperwright.errors import NoNumber
from paperwright.numbers import gcd, raised


def fraction(top, bottom):
    if bottom == 0:
        raise NoNumber("a fraction's bottom is 0")
    divisor = gcd(top, bottom)
    if bottom < 0:
        divisor = -divisor
    return (top // divisor, bottom // divisor)


# Common divisors are taken out of the parts ahead of the products:
# of long numbers that is far less work than shortening the outcome.
def plus(one, other):
    top, bottom = one
    other_top, other_bottom = other
    divisor = gcd(bottom, other_bottom)
    if divisor == 1:
        return (top * other_bottom + other_top * bottom, bottom * other_bottom)
    bottom = bottom // divisor
    total = top * (other_bottom // divisor) + other_top * bottom
    left = gcd(total, divisor)
    return (total // left, bottom * (other_bottom // left))


def negated(one):
    return (-one[0], one[1])


def minus(one, other):
    return plus(one, negated(other))


def times(one, other):
    top, bottom = one
    other_top, other_bottom = other
    first = gcd(top, other_bottom)
    second = gcd(other_top, bottom)
    return ((top // first) * (other_top // second), (bottom // second) * (other_bottom // first))


def over(one, other):
    top, bottom = other
    if top == 0:
        raise NoNumber("division by 0")
    if top < 0:
        return times(one, (-bottom, -top))
    return times(one, (bottom, top))


def power(one, exponent):
    return (raised(one[0], exponent), raised(one[1], exponent))


def under(one, other):
    return one[0] * other[1] < other[0] * one[1]


def middle(one, other):
    return over(plus(one, other), (2, 1))
