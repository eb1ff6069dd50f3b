"""Which of a whole row's parts by a prime's power, taken together, give a part of the row itself."""

from paperwright.moduli import times_by
from paperwright.wholes import shortened, whole_divided


# A tuple (part, left): a part of the row that some of the parts give, no more of them than need be, and
# the other ones; or None where no choice of them, with at most half of the row's degree, gives any.
def part_among(whole, parts, modulus):
    choices = [([], [whole[-1] % modulus])]
    while choices != []:
        choices = widened(choices, parts, (len(whole) - 1) // 2, modulus)
        for picked, product in choices:
            part = told_around_0(product, modulus)
            if divides(part, whole):
                return (part, [other for place, other in enumerate(parts) if place not in picked])
    return None


# Each choice with one more part, further on than those that it has, and of at most this degree.
def widened(choices, parts, degree, modulus):
    told = []
    for picked, product in choices:
        for place in range(picked[-1] + 1 if picked != [] else 0, len(parts)):
            if len(product) + len(parts[place]) - 2 <= degree:
                told.append((picked + [place], times_by(product, parts[place], modulus)))
    return told


def told_around_0(numbers, modulus):
    return shortened([number - modulus if 2 * number > modulus else number for number in numbers])[1]


def divides(part, whole):
    return whole[-1] % part[-1] == 0 and whole_divided(whole, part)[1] == []
