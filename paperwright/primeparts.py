"""How a row by a prime splits."""

from paperwright.moduli import divided_by, greatest_by, minus_by, plus_by, power_by
from paperwright.wholes import rising


def prime_parts(row, prime):
    left = list(row)
    parts = []
    degree = 1
    # x to the prime, degree times over: less x it is the product of all monic rows
    # that split no further and whose degree divides this one, each of them once.
    high = [0, 1]
    while 2 * degree < len(left):
        high = power_by(high, prime, left, prime)
        alike = greatest_by(minus_by(high, [0, 1], prime), left, prime)[0]
        for part in equal_parts(alike, degree, prime):
            often, left = taken_out(part, left, prime)
            parts.append((part, often))
        degree = degree + 1
    # Whatever splits off now is of this degree or more, and there is no room for two such.
    if len(left) > 1:
        parts.append((left, 1))
    return rising(parts)


def taken_out(part, left, prime):
    often = 0
    quotient, rest = divided_by(left, part, prime)
    while rest == []:
        often = often + 1
        left = quotient
        quotient, rest = divided_by(left, part, prime)
    return (often, left)


# The parts of a monic row that is a product of unlike parts, all of this degree.
def equal_parts(row, degree, prime):
    if len(row) == 1:
        return []
    if len(row) == degree + 1:
        return [row]
    part = halved(row, degree, prime)
    other = divided_by(row, part, prime)[0]
    return equal_parts(part, degree, prime) + equal_parts(other, degree, prime)


# By each part of the row a trace is a number. The traces of the powers of x span all choices of
# such numbers, so that one of them isn't the same number by all parts. And of two unlike numbers
# some shift makes the one a square that isn't 0, and the other none (by 2: the one 0, the other 1).
def halved(row, degree, prime):
    place = 1
    spread = trace(place, degree, row, prime)
    while len(spread) < 2:
        place = place + 1
        spread = trace(place, degree, row, prime)
    part = [1]
    while len(part) == 1 or len(part) == len(row):
        part = greatest_by(squares(spread, row, prime), row, prime)[0]
        spread = plus_by(spread, [1], prime)
    return part


def trace(place, degree, row, prime):
    power = divided_by([0] * place + [1], row, prime)[1]
    total = power
    for step in range(degree - 1):
        power = power_by(power, prime, row, prime)
        total = plus_by(total, power, prime)
    return total


# A row that is 0 by just those parts by which the spread is a square that isn't 0 (by 2: by which it is 0).
def squares(spread, row, prime):
    if prime == 2:
        return spread
    return minus_by(power_by(spread, (prime - 1) // 2, row, prime), [1], prime)
