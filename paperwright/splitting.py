"""How a row splits into whole rows that don't split, and the papers that these don't."""

from paperwright.bounds import least_exponent
from paperwright.combining import part_among
from paperwright.divisors import bare_parts, whole_divisor
from paperwright.errors import NoRow
from paperwright.fractions import over, power
from paperwright.lifting import lifted
from paperwright.moduli import apart_by, monic_by, reduced
from paperwright.numbers import is_prime, raised
from paperwright.primeparts import prime_parts
from paperwright.wholerows import whole_row
from paperwright.wholes import rising, whole_over, whole_slope


def split(row):
    if row == []:
        raise NoRow("a splitting of the row 0")
    number = row[-1]
    told = []
    for bare, often in bare_parts(row):
        for part in unsplit_parts(whole_row(bare)[1]):
            told.append((part, often))
            number = over(number, power((part[-1], 1), often))
    return (number, rising(told))


def wholeness(whole):
    if len(whole_divisor(whole, whole_slope(whole))) > 1:
        return None
    prime, exponent, parts = lifted_parts(whole)
    if part_among(whole, parts, raised(prime, exponent)) is not None:
        return None
    return (prime, exponent, parts)


# Of a bare whole row.
def unsplit_parts(whole):
    prime, exponent, parts = lifted_parts(whole)
    modulus = raised(prime, exponent)
    told = []
    found = part_among(whole, parts, modulus)
    while found is not None:
        part, parts = found
        told.append(part)
        whole = whole_over(whole, part)
        # The bound of the row at the outset holds of what is left, too: its parts are parts of that.
        found = part_among(whole, parts, modulus)
    return told + [whole]


# A tuple (prime, exponent, parts) that is the row's wholeness, if it has any.
def lifted_parts(whole):
    prime = good_prime(whole)
    exponent = least_exponent(whole, prime)
    modulus = raised(prime, exponent)
    parts = [part for part, often in prime_parts(monic_by(whole, prime), prime)]
    return (prime, exponent, lifted(monic_by(whole, modulus), parts, prime, modulus))


# The least prime that doesn't divide the last number and by which the row stays bare.
def good_prime(whole):
    prime = 2
    while not is_good(prime, whole):
        prime = prime + 1
    return prime


def is_good(prime, whole):
    if not is_prime(prime) or whole[-1] % prime == 0:
        return False
    return apart_by(reduced(whole, prime), reduced(whole_slope(whole), prime), prime)
