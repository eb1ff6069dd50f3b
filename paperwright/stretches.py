"""Stretches: each with one root of a row alone, and each root in one."""

from paperwright.counting import changes, counting_chain, root_bound
from paperwright.divisors import primitive
from paperwright.errors import NoRow
from paperwright.fractions import middle


def stretches(row):
    if row == []:
        raise NoRow("stretches of the row 0")
    if len(row) == 1:
        return []
    return whole_stretches(primitive(row)[0])


# Of a row of whole numbers, of degree 1 or more.
def whole_stretches(numbers):
    chain = counting_chain(numbers)
    bound = root_bound(numbers)
    told = []
    # Ends, each with the changes there; the leftmost stretch stands last.
    waiting = [(end_of(chain, (-bound, 1)), end_of(chain, (bound, 1)))]
    while waiting != []:
        low, high = waiting.pop()
        if low[1] - high[1] > 1:
            between = end_of(chain, middle(low[0], high[0]))
            waiting = waiting + [(between, high), (low, between)]
        elif low[1] - high[1] == 1:
            told.append((low[0], high[0]))
    return told


def end_of(chain, at):
    return (at, changes(chain, at))
