"""A grip on a root: a stretch with this root of its row alone, which may be halved again and again."""

from paperwright.errors import NoRoot
from paperwright.fractions import fraction
from paperwright.splitting import wholeness
from paperwright.stretches import whole_stretches
from paperwright.wholes import is_whole, whole_moved, whole_value


# The stretch is (low / bottom, high / bottom). Halving doubles the bottom, so that high less low stays as it is.
class Grip:
    def __init__(self, numbers, low, high):
        self.numbers = numbers
        self.low = low[0] * high[1]
        self.high = high[0] * low[1]
        self.bottom = low[1] * high[1]
        # The row isn't 0 at low: its root there would be a fraction, and a row that doesn't split
        # has no other root beside one that is a fraction.
        self.rises = whole_value(numbers, low[0], low[1]) < 0

    def halve(self):
        between = self.low + self.high
        self.bottom = 2 * self.bottom
        value = whole_value(self.numbers, between, self.bottom)
        if value == 0 or (value > 0) == self.rises:
            self.low = 2 * self.low
            self.high = between
        else:
            self.low = between
            self.high = 2 * self.high

    def narrow(self, often):
        for time in range(often):
            self.halve()

    def stretch(self):
        return (fraction(self.low, self.bottom), fraction(self.high, self.bottom))

    # The sign that a row of whole numbers has all over the stretch, both ends too, or 0 where it isn't seen to.
    def sign_of(self, numbers):
        # In steps down from high, each 1 / bottom long: the first number is the row's value
        # there, and the others are too small to bring it to 0 on the way to low.
        moved = whole_moved(numbers, self.high, self.bottom)
        way = self.high - self.low
        reach = 0
        for number in reversed(moved[1:]):
            reach = (reach + abs(number)) * way
        if abs(moved[0]) <= reach:
            return 0
        return 1 if moved[0] > 0 else -1


# A grip on the root, or refused where it is none.
def grip_of(root):
    whole, place = root
    if not is_whole(whole) or wholeness(whole) is None:
        raise NoRoot("a root's row splits")
    found = whole_stretches(whole)
    if not 0 <= place < len(found):
        raise NoRoot("a root's row has no such root")
    low, high = found[place]
    return Grip(whole, low, high)
