"""Sturm's row, and the count of roots that it gives."""

from paperwright.chains import Chain
from paperwright.counting import counted, counting_chain
from paperwright.divisors import primitive
from paperwright.errors import NoRow
from paperwright.fractions import fraction, negated, times
from paperwright.rows import slope
from paperwright.wholes import whole_slope


def sturm_row(row):
    if row == []:
        raise NoRow("Sturm's row of the row 0")
    if len(row) == 1:
        return []
    numbers, bottom, content = primitive(row)
    chain = Chain(numbers, whole_slope(numbers), [])
    told = [list(row), slope(row)]
    # How many times their rows of the chain the last two told ones are.
    ahead = fraction(content, bottom)
    last = ahead
    while len(chain.last) > 1 and chain.step():
        ahead, last = last, negated(times(ahead, fraction(chain.known, chain.scale)))
        told.append([times(last, (number, 1)) for number in chain.last])
    return told


def count(row, low, high):
    if row == []:
        raise NoRow("a count of the roots of the row 0")
    if len(row) == 1:
        return 0
    return counted(counting_chain(primitive(row)[0]), low, high)
