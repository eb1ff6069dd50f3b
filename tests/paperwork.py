"""A plain second reading of the papers that a whole row doesn't split (point 15), word by word."""

import itertools
import math
from fractions import Fraction

from reference import value


def rests(row, modulus):
    row = [number % modulus for number in row]
    while row and row[-1] == 0:
        row.pop()
    return row


def product(rows, modulus):
    told = [1]
    for row in rows:
        longer = [0] * (len(told) + len(row) - 1)
        for i, a in enumerate(told):
            for j, b in enumerate(row):
                longer[i + j] += a * b
        told = rests(longer, modulus)
    return told


def rest_of(row, monic, modulus):
    row = list(row)
    while len(row) >= len(monic):
        head = row.pop()
        for place in range(1, len(monic)):
            row[-place] = (row[-place] - head * monic[-1 - place]) % modulus
    return rests(row, modulus)


def divisor(one, other, prime):
    while other:
        other = [number * pow(other[-1], -1, prime) % prime for number in other]
        one, other = other, rest_of(one, other, prime)
    return one


def unsplit_by(row, prime):
    """No monic row of at most half the degree divides this one: x^(p^d) - x has no common divisor with it."""
    power = [0, 1]
    for _ in range((len(row) - 1) // 2):
        told, base, exponent = [1], power, prime
        while exponent:
            if exponent % 2:
                told = rest_of(product([told, base], prime), row, prime)
            base = rest_of(product([base, base], prime), row, prime)
            exponent //= 2
        power = told
        less = power + [0] * (2 - len(power))
        less[1] -= 1
        if len(divisor(row, rests(less, prime), prime)) > 1:
            return False
    return True


def bound(whole):
    most = (len(whole) - 1) // 2
    line = itertools.chain([0], *([n, -n] for n in range(1, 100)))
    places = [x for x in line if value(whole, x) != 0][:most + 1]
    total = Fraction(0)
    for place in places:
        row = [Fraction(1)]
        for other in places:
            if other != place:
                by = Fraction(1, place - other)
                row = [by * (a - other * b) for a, b in zip([0] + row, row + [0])]
        total += abs(value(whole, place)) * max(map(abs, row))
    return total


def divides(part, whole):
    rest = [Fraction(number) for number in whole]
    while len(rest) >= len(part):
        head = rest[-1] / part[-1]
        for place in range(1, len(part) + 1):
            rest[-place] -= head * part[-place]
        assert rest.pop() == 0
    return not any(rest)


def is_whole(row):
    return (
        type(row) is list and len(row) > 1 and all(type(number) is int for number in row)
        and row[-1] > 0 and math.gcd(*row) == 1
    )


def is_prime(number):
    return number > 1 and all(number % divisor for divisor in range(2, math.isqrt(number) + 1))


def has_form(paper):
    return (
        type(paper) is tuple and len(paper) == 3 and type(paper[0]) is int and type(paper[1]) is int
        and type(paper[2]) is list and all(type(part) is list for part in paper[2])
        and all(type(number) is int for part in paper[2] for number in part)
    )


def paper_holds(whole, paper):
    if not has_form(paper):
        return False
    prime, exponent, parts = paper
    lead, most = whole[-1], (len(whole) - 1) // 2
    if not (prime <= 9973 and is_prime(prime) and lead % prime):
        return False
    least, limit = 1, 2 * lead * bound(whole)
    while prime ** least <= limit:
        least += 1
    if exponent != least or not parts:
        return False
    modulus = prime ** exponent
    if any(len(part) < 2 or part[-1] != 1 or min(part) < 0 or max(part) >= modulus for part in parts):
        return False
    by_prime = [rests(part, prime) for part in parts]
    if len(set(map(tuple, by_prime))) != len(parts) or not all(unsplit_by(part, prime) for part in by_prime):
        return False
    if product([[lead]] + parts, modulus) != rests(whole, modulus):
        return False
    return not any(gives_part(choice, whole, modulus, most) for choice in choices(parts))


def choices(parts):
    return itertools.chain(*(itertools.combinations(parts, many) for many in range(1, len(parts) + 1)))


def gives_part(choice, whole, modulus, most):
    if sum(len(part) - 1 for part in choice) > most:
        return False
    row = product([[whole[-1]]] + list(choice), modulus)
    row = [number if 2 * number <= modulus else number - modulus for number in row]
    return divides([number // math.gcd(*row) for number in row], whole)
