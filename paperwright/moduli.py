"""Rows by a modulus: lists of whole numbers from 0 to the modulus less 1, the last not 0.

The modulus may be any whole number from 2 on. What is divided by has a last number with an
inverse: by a prime that is any row but [], by a power of one it is each monic row.
"""

from paperwright.numbers import common
from paperwright.wholes import scaled, trimmed, whole_minus, whole_plus, whole_times


def reduced(numbers, modulus):
    return trimmed([number % modulus for number in numbers])


def inverse(number, modulus):
    return common(number, modulus)[1] % modulus


def monic_by(numbers, modulus):
    return reduced(scaled(numbers, inverse(numbers[-1], modulus)), modulus)


def plus_by(one, other, modulus):
    return reduced(whole_plus(one, other), modulus)


def minus_by(one, other, modulus):
    return reduced(whole_minus(one, other), modulus)


def times_by(one, other, modulus):
    return reduced(whole_times(one, other), modulus)


def divided_by(one, other, modulus):
    room = max(len(one) - len(other) + 1, 0)
    by = inverse(other[-1], modulus)
    rest = list(one)
    quotient = [0] * room
    for place in range(room - 1, -1, -1):
        head = rest.pop() * by % modulus
        quotient[place] = head
        for further in range(len(other) - 1):
            rest[place + further] = (rest[place + further] - head * other[further]) % modulus
    return (quotient, trimmed(rest))


# The row to the exponent, the rest of it by the other.
def power_by(row, exponent, other, modulus):
    told = [1]
    while exponent > 0:
        if exponent % 2 == 1:
            told = divided_by(times_by(told, row, modulus), other, modulus)[1]
        exponent = exponent // 2
        if exponent > 0:
            row = divided_by(times_by(row, row, modulus), other, modulus)[1]
    return told


# Whether the two rows have no common divisor of degree 1 or more.
def apart_by(one, other, prime):
    while len(other) > 1:
        one, other = other, divided_by(one, other, prime)[1]
    return len(other) == 1


# Of two rows, not both [], a tuple (divisor, u, v): the greatest divisor, monic, with its cofactors.
def greatest_by(one, other, prime):
    u, next_u = [1], []
    v, next_v = [], [1]
    while other != []:
        quotient, rest = divided_by(one, other, prime)
        one, other = other, rest
        u, next_u = next_u, minus_by(u, times_by(quotient, next_u, prime), prime)
        v, next_v = next_v, minus_by(v, times_by(quotient, next_v, prime), prime)
    by = inverse(one[-1], prime)
    return (
        reduced(scaled(one, by), prime),
        reduced(scaled(u, by), prime),
        reduced(scaled(v, by), prime),
    )
