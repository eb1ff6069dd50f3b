"""Whether a wholeness shows that a whole row doesn't split.

This is the checker's own. It draws on nothing by which the house splits rows: a fault there is then seen here.
"""

from paperwright.fractions import fraction, plus, times
from paperwright.moduli import apart_by, minus_by, power_by, reduced, times_by
from paperwright.numbers import raised
from paperwright.wholes import shortened, whole_divided, whole_times, whole_value


def shows_unsplit(whole, wholeness):
    prime, exponent, parts = wholeness
    # The exponent is found and compared, and the power made then: a told one may be far too great.
    if whole[-1] % prime == 0 or exponent != asked_exponent(whole, prime):
        return False
    modulus = raised(prime, exponent)
    return (
        are_parts(whole, parts, modulus)
        and are_unsplit_and_unlike([reduced(part, prime) for part in parts], prime)
        and not gives_part(whole, parts, modulus)
    )


# The least exponent from 1 on with prime ** exponent > 2 a B.
def asked_exponent(whole, prime):
    top, bottom = bound_of_parts(whole)
    exponent = 1
    power = prime
    while power * bottom <= 2 * whole[-1] * top:
        exponent = exponent + 1
        power = power * prime
    return exponent


# B: no number of a part of at most half the row's degree is greater in size. For the part's value at a whole
# number divides the row's value there, and the part is made out by its values at that many places.
def bound_of_parts(whole):
    places = places_off_roots(whole, (len(whole) - 1) // 2 + 1)
    total = (0, 1)
    for place in places:
        total = plus(total, times((abs(whole_value(whole, place, 1)), 1), peak_for(place, places)))
    return total


# The first of 0, 1, -1, 2, -2, .. at which the row isn't 0.
def places_off_roots(whole, many):
    told = []
    place = 0
    while len(told) < many:
        if whole_value(whole, place, 1) != 0:
            told.append(place)
        place = -place if place > 0 else 1 - place
    return told


# The greatest size among the numbers of the row that is 1 at the place and 0 at the others of the places.
def peak_for(place, places):
    numbers = [1]
    for other in places:
        if other != place:
            numbers = whole_times(numbers, [-other, 1])
    return fraction(max([abs(number) for number in numbers]), abs(whole_value(numbers, place, 1)))


def are_parts(whole, parts, modulus):
    if sum([len(part) - 1 for part in parts]) != len(whole) - 1:
        return False
    product = reduced([whole[-1]], modulus)
    for part in parts:
        if max(part) >= modulus:
            return False
        product = times_by(product, part, modulus)
    return product == reduced(whole, modulus)


def are_unsplit_and_unlike(parts, prime):
    for place, part in enumerate(parts):
        if part in parts[:place] or not is_unsplit_by(part, prime):
            return False
    return True


# What splits has a part of at most half its degree. By a prime, x ** (prime ** degree) - x is a
# multiple of all unsplit rows of this degree.
def is_unsplit_by(row, prime):
    high = [0, 1]
    for degree in range((len(row) - 1) // 2):
        high = power_by(high, prime, row, prime)
        if not apart_by(row, minus_by(high, [0, 1], prime), prime):
            return False
    return True


# Whether some choice of the parts, of at most half the row's degree in all, gives a part of the row itself.
def gives_part(whole, parts, modulus):
    most = (len(whole) - 1) // 2
    products = [reduced([whole[-1]], modulus)]
    for part in parts:
        short = [product for product in products if len(product) + len(part) - 2 <= most]
        wider = [times_by(product, part, modulus) for product in short]
        if any([divides(around_0(product, modulus), whole) for product in wider]):
            return True
        products = products + wider
    return False


def around_0(product, modulus):
    return shortened([number if 2 * number <= modulus else number - modulus for number in product])[1]


# Neither has a common divisor in its numbers, so where the one divides the other its last number does so, too.
def divides(one, other):
    return other[-1] % one[-1] == 0 and whole_divided(other, one)[1] == []
