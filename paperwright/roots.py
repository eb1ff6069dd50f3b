"""Numbers that are roots: tuples (row, place), the row a whole one that doesn't split."""

from paperwright.counting import counted, counting_chain
from paperwright.divisors import primitive
from paperwright.errors import NoRow
from paperwright.grips import grip_of
from paperwright.splitting import split
from paperwright.stretches import whole_stretches
from paperwright.wholes import whole_divided, whole_times


def roots_of(row):
    if row == []:
        raise NoRow("the roots of the row 0")
    parts = split(row)[1]
    if parts == []:
        return []
    product = [1]
    for part, often in parts:
        product = whole_times(product, part)
    chains = [counting_chain(part) for part, often in parts]
    places = [0] * len(parts)
    told = []
    for low, high in whole_stretches(product):
        for which, chain in enumerate(chains):
            if counted(chain, low, high) == 1:
                part, often = parts[which]
                told.append(((list(part), places[which]), often))
                places[which] = places[which] + 1
    return told


def order(one, other):
    grip = grip_of(one)
    other_grip = grip_of(other)
    if one[0] == other[0]:
        return 0 if one[1] == other[1] else -1 if one[1] < other[1] else 1
    # Two rows that don't split have no root in common, so that the stretches part in the end.
    found = side(grip, other_grip)
    while found == 0:
        grip.halve()
        other_grip.halve()
        found = side(grip, other_grip)
    return found


def side(grip, other):
    if grip.high * other.bottom <= other.low * grip.bottom:
        return -1
    if other.high * grip.bottom <= grip.low * other.bottom:
        return 1
    return 0


def sign_at(row, root):
    return gripped_sign(row, grip_of(root))


# The sign at the root on which there is this grip. Where it isn't 0, the grip is narrowed till the row has that
# sign all over its stretch, both ends too.
def gripped_sign(row, grip):
    if row == []:
        return 0
    numbers = primitive(row)[0]
    if whole_divided(numbers, grip.numbers)[1] == []:
        return 0
    return settled_sign(numbers, grip)


# As above, where the root is none of the row's own.
def settled_sign(numbers, grip):
    often = 1
    found = grip.sign_of(numbers)
    while found == 0:
        # To ask costs more than to halve: so each time twice as often as the last time.
        grip.narrow(often)
        often = 2 * often
        found = grip.sign_of(numbers)
    return found


def within(root, wide):
    grip = grip_of(root)
    top, bottom = wide
    while (grip.high - grip.low) * bottom > top * grip.bottom:
        grip.halve()
    return grip.stretch()


def root_of(number):
    top, bottom = number
    return ([-top, bottom], 0)
