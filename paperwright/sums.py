"""Sums of quotients: S with S(x + 1) - S(x) = t, or that there is none."""

from paperwright.errors import TooFar
from paperwright.fractions import over
from paperwright.pieces import Heap, joined_pieces, pieces
from paperwright.rows import row_minus, row_moved
from paperwright.wholes import whole_moved

# Parts that are further from one another than this are not brought together.
FURTHEST = 20


def summed(quotient):
    row, told = pieces(quotient)
    total, left = Heap(), Heap()
    firsts = []
    for part, often, top in told:
        first, way = found_first(part, firsts)
        if way > FURTHEST:
            raise TooFar("two parts of a quotient's bottom are too far from one another")
        # Moved all the way back, the piece stands over the first part; what it passes by on its
        # way comes to the sum. (The first one of those that are one another moved comes first.)
        back = row_moved(top, (-way, 1))
        left.gather(first, often, back)
        for step in range(way):
            total.gather(whole_moved(first, step, 1), often, row_moved(back, (step, 1)))
    found = joined_pieces(row_summed(row), total.told())
    rest = left.told()
    if rest == []:
        return (True, found)
    return (False, found, joined_pieces([], rest))


# A tuple (first, way): the one of the firsts that is the part when it is moved this way. If there is none, the part
# itself becomes one.
def found_first(part, firsts):
    for first in firsts:
        way = way_between(first, part)
        if way is not None:
            return (first, way)
    firsts.append(part)
    return (part, 0)


# The whole number by which the one has to be moved to become the other, or None.
def way_between(one, other):
    if len(one) != len(other) or one[-1] != other[-1]:
        return None
    way = (other[-2] - one[-2]) // ((len(one) - 1) * one[-1])
    return way if whole_moved(one, way, 1) == other else None


def row_summed(row):
    if row == []:
        return []
    told = [(0, 1)] * (len(row) + 1)
    left = row
    while left != []:
        power = len(left)
        told[power] = over(left[-1], (power, 1))
        term = [(0, 1)] * power + [told[power]]
        left = row_minus(left, row_minus(row_moved(term, (1, 1)), term))
    return told
