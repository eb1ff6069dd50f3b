"""Rows by a prime: lists of whole numbers from 0 to the prime less 1, the last not 0."""

from paperwright.errors import NoNumber
from paperwright.numbers import common
from paperwright.wholes import trimmed, whole_times


def rest_plus(one, other, prime):
    if len(one) < len(other):
        one, other = other, one
    told = list(one)
    for place, number in enumerate(other):
        told[place] = (told[place] + number) % prime
    return trimmed(told)


def rest_times(one, other, prime):
    return [number % prime for number in whole_times(one, other)]


def rest_divided(one, other, prime):
    if other == []:
        raise NoNumber("division by the row 0")
    room = max(len(one) - len(other) + 1, 0)
    by = common(other[-1], prime)[1]
    rest = list(one)
    quotient = [0] * room
    for place in range(room - 1, -1, -1):
        head = rest.pop() * by % prime
        quotient[place] = head
        for further in range(len(other) - 1):
            rest[place + further] = (rest[place + further] - head * other[further]) % prime
    return (quotient, trimmed(rest))
