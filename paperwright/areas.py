"""Areas of quotients: S with the slope t, or that there is none."""

from paperwright.divisors import greatest
from paperwright.fractions import over
from paperwright.pieces import Heap, fraction_row, joined_pieces, pieces
from paperwright.rows import divided, row_minus, row_times, slope


def area(quotient):
    row, told = pieces(quotient)
    total, left = Heap(), Heap()
    for part, often, top in told:
        factor = fraction_row(part)
        while often > 1:
            often = often - 1
            share, top = lowered(factor, often, top)
            total.gather(part, often, share)
        left.gather(part, 1, top)
    found = joined_pieces(row_area(row), total.told())
    rest = left.told()
    if rest == []:
        return (True, found)
    return (False, found, joined_pieces([], rest))


def row_area(row):
    if row == []:
        return []
    return [(0, 1)] + [over(number, (place + 1, 1)) for place, number in enumerate(row)]


# Of a piece that has the part once more than often: a tuple (share, top). The piece is the slope of the share over
# the part to the power often, and the top over that power. For the piece's own top is a multiple of the part's slope
# but for a multiple of the part, and the slope of 1 / part^often is -often times the part's slope over the next power.
def lowered(part, often, top):
    rise = slope(part)
    inverse = greatest(rise, part)[1]
    times_rise = divided(row_times(top, inverse), part)[1]
    times_part = divided(row_minus(top, row_times(times_rise, rise)), part)[0]
    share = [over(number, (-often, 1)) for number in times_rise]
    return (share, row_minus(times_part, slope(share)))
