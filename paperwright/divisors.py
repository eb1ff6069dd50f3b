"""Greatest divisors of rows, resultants, bare parts."""

from paperwright.chains import Chain
from paperwright.errors import NoRow
from paperwright.fractions import fraction, over
from paperwright.moduli import apart_by, reduced
from paperwright.numbers import raised
from paperwright.wholes import (
    cleared, row_over, scaled, shortened, whole_minus, whole_over, whole_slope, whole_times,
)


def greatest(one, other):
    if len(one) < len(other):
        divisor, other_factor, factor = greatest(other, one)
        return (divisor, factor, other_factor)
    if one == []:
        return ([], [], [])
    if other == []:
        return ([over(number, one[-1]) for number in one], [over((1, 1), one[-1])], [])
    numbers, bottom, content = primitive(one)
    other_numbers, other_bottom, other_content = primitive(other)
    chain = Chain(numbers, other_numbers, [1])
    chain.walk()
    divisor, factor = chain.last, chain.factor_last
    # The other's factor is what is left: that is less work than to take it along the chain.
    left = whole_minus(divisor, whole_times(factor, numbers))
    other_factor = whole_over(left, other_numbers)
    lead = divisor[-1]
    return (
        row_over(divisor, lead),
        row_over(scaled(factor, bottom), lead * content),
        row_over(scaled(other_factor, other_bottom), lead * other_content),
    )


# A row that isn't [] as (numbers, bottom, content): it is content / bottom times the numbers,
# which have no common divisor above 1.
def primitive(row):
    numbers, bottom = cleared(row)
    content, numbers = shortened(numbers)
    return (numbers, bottom, content)


def resultant(one, other):
    if one == [] or other == []:
        raise NoRow("a resultant of the row 0")
    degree, other_degree = len(one) - 1, len(other) - 1
    if degree < other_degree:
        top, bottom = resultant(other, one)
        # Each of the one's lines goes past each of the other's.
        return (-top, bottom) if degree * other_degree % 2 == 1 else (top, bottom)
    numbers, bottom, content = primitive(one)
    other_numbers, other_bottom, other_content = primitive(other)
    chain = Chain(numbers, other_numbers, [])
    chain.walk()
    top = chain.outcome() * raised(content, other_degree) * raised(other_content, degree)
    return fraction(top, raised(bottom, other_degree) * raised(other_bottom, degree))


def bare_parts(row):
    if row == []:
        raise NoRow("bare parts of the row 0")
    whole = primitive(row)[0]
    # What of each part comes beyond the first time; and the parts themselves, each once.
    beyond = whole_divisor(whole, whole_slope(whole))
    left = whole_over(whole, beyond)
    parts = []
    often = 1
    while len(left) > 1:
        further = whole_divisor(left, beyond)
        part = whole_over(left, further)
        if len(part) > 1:
            parts.append((row_over(part, part[-1]), often))
        left = further
        beyond = whole_over(beyond, further)
        often = often + 1
    return parts


# A prime, great enough to divide the resultant of two rows by mere chance alone.
WITNESS = 2147483647


# Of two rows without common divisors above 1 in their numbers, a greatest divisor that is such a row too.
def whole_divisor(one, other):
    if len(one) < len(other):
        return whole_divisor(other, one)
    if other == []:
        return one
    # What divides both has its full degree by the prime, too: so what are apart by it are apart.
    if one[-1] % WITNESS != 0 and apart_by(reduced(one, WITNESS), reduced(other, WITNESS), WITNESS):
        return [1]
    chain = Chain(one, other, [])
    chain.walk()
    if len(chain.last) == 1:
        return [1]
    return shortened(chain.last)[1]
