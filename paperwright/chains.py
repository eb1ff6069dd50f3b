"""The chain of rests of two rows of whole numbers, kept whole and short.

Each rest is divided by a number that is known to divide it (the subresultant chain), so
its numbers are determinants of the two rows' own numbers and grow no faster than these.
"""

from paperwright.numbers import raised
from paperwright.wholes import scaled, whole_divided, whole_minus, whole_slope, whole_times


class Chain:
    # Neither row is [], and the one is no shorter than the other. Where factor is [1], each row of
    # the chain comes with the factor by which the one enters it; where it is [], with []. Of the two rows
    # ahead of the last one, the rest of the one by the other is known / scale times the last one.
    def __init__(self, one, other, factor):
        self.ahead = one
        self.last = other
        self.factor_ahead = factor
        self.factor_last = []
        self.lead = 1
        self.height = 1
        self.sign = 1
        self.scale = 1
        self.known = 1

    # Goes on to the last row that isn't 0, or to one of degree 0.
    def walk(self):
        going = True
        while going and len(self.last) > 1:
            going = self.step()

    def step(self):
        quotient, rest, scale = whole_divided(self.ahead, self.last)
        if rest == []:
            return False
        factor = whole_minus(scaled(self.factor_ahead, scale), whole_times(quotient, self.factor_last))
        if len(self.ahead) % 2 == 0 and len(self.last) % 2 == 0:
            self.sign = -self.sign
        drop = len(self.ahead) - len(self.last)
        known = self.lead * raised(self.height, drop)
        self.scale = scale
        self.known = known
        self.ahead = self.last
        self.factor_ahead = self.factor_last
        self.last = [number // known for number in rest]
        self.factor_last = [number // known for number in factor]
        self.lead = self.ahead[-1]
        self.height = next_height(self.height, self.lead, drop)
        return True

    # Of a chain that was walked: the resultant of the two rows that it began with.
    def outcome(self):
        if len(self.last) > 1:
            return 0
        drop = len(self.ahead) - 1
        return self.sign * next_height(self.height, self.last[0], drop)


# There is never a rest here. A drop of 0 comes first alone, and then the height is still 1.
def next_height(height, lead, drop):
    if drop == 0:
        return height
    return raised(lead, drop) // raised(height, drop - 1)


# The rows of whole numbers that are Sturm's row of a row of degree 1 or more, but each times a number above 0.
def sturm_chain(numbers):
    ahead, last = 1, 1
    told = [list(numbers), whole_slope(numbers)]
    chain = Chain(told[0], told[1], [])
    while len(chain.last) > 1 and chain.step():
        ahead, last = last, (-ahead if (chain.known > 0) == (chain.scale > 0) else ahead)
        told.append(scaled(chain.last, last))
    return told
