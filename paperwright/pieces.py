"""Quotients of rows, and the row and pieces that they are the sum of."""

from paperwright.divisors import greatest, primitive, whole_divisor
from paperwright.errors import NoNumber
from paperwright.fractions import over
from paperwright.rows import divided, row_plus, row_times
from paperwright.splitting import split
from paperwright.wholes import rising, row_over, scaled, whole_over


def quotient_of(top, bottom):
    if bottom == []:
        raise NoNumber("a quotient's bottom is the row 0")
    if top == []:
        return ([], [(1, 1)])
    numbers, part, content = primitive(top)
    other_numbers, other_part, other_content = primitive(bottom)
    divisor = whole_divisor(numbers, other_numbers)
    numbers = whole_over(numbers, divisor)
    other_numbers = whole_over(other_numbers, divisor)
    lead = other_numbers[-1]
    top_numbers = scaled(numbers, content * other_part)
    return (row_over(top_numbers, part * other_content * lead), row_over(other_numbers, lead))


def pieces(quotient):
    top, bottom = quotient
    row, rest = divided(top, bottom)
    told = []
    for part, often in split(bottom)[1]:
        told = told + pieces_of_part(rest, bottom, part, often)
    return (row, rising(told))


def pieces_of_part(rest, bottom, part, often):
    factor = fraction_row(part)
    power = [(1, 1)]
    for time in range(often):
        power = row_times(power, factor)
    other = divided(bottom, power)[0]
    # By the part's power the others together have an inverse, and the rest times it is this part's share.
    inverse = greatest(other, power)[1]
    share = divided(row_times(rest, inverse), power)[1]
    told = []
    for exponent in range(often, 0, -1):
        share, top = divided(share, factor)
        if top != []:
            told.append((list(part), exponent, top))
    return told


def fraction_row(whole):
    return [(number, 1) for number in whole]


# Pieces that are added up where they have the same part and how often.
class Heap:
    def __init__(self):
        self.tops = {}

    def gather(self, part, often, top):
        key = (tuple(part), often)
        self.tops[key] = row_plus(self.tops.get(key, []), top)

    def told(self):
        return [(list(key[0]), key[1], self.tops[key]) for key in self.tops if self.tops[key] != []]


# The quotient that is the sum of the row and of pieces, of which no two have the same part and how often. Nothing
# is left to be shortened: of each part the piece that has it most often isn't 0, and the other parts don't touch it.
def joined_pieces(row, told):
    tops = {}
    for part, often, top in told:
        shared = tops.setdefault(tuple(part), {})
        shared[often] = top
    total, bottom = row, [(1, 1)]
    for part in tops:
        share, power = over_one_part(fraction_row(part), tops[part])
        total = row_plus(row_times(total, power), row_times(share, bottom))
        bottom = row_times(bottom, power)
    return ([over(number, bottom[-1]) for number in total], [over(number, bottom[-1]) for number in bottom])


# A tuple (top, power) of the pieces with this part, by how often it comes in them.
def over_one_part(part, tops):
    top, power = [], [(1, 1)]
    for often in range(max(list(tops)), 0, -1):
        top = row_plus(top, row_times(tops.get(often, []), power))
        power = row_times(power, part)
    return (top, power)
