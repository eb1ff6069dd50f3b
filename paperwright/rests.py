"""Rows by a prime: lists of whole numbers from 0 to the prime less 1, the last not 0."""

from paperwright.errors import NoNumber
from paperwright.moduli import divided_by, plus_by, times_by


def rest_plus(one, other, prime):
    return plus_by(one, other, prime)


def rest_times(one, other, prime):
    return times_by(one, other, prime)


def rest_divided(one, other, prime):
    if other == []:
        raise NoNumber("division by the row 0")
    return divided_by(one, other, prime)
