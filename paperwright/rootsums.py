"""Sums, products and quotients of roots, told as roots."""

from paperwright.counting import counted, counting_chain, root_bound
from paperwright.divisors import primitive
from paperwright.errors import NoNumber
from paperwright.fractions import fraction, minus, negated, over, plus, times, under
from paperwright.grips import grip_of
from paperwright.splitting import split
from paperwright.wholes import scaled


def root_plus(one, other):
    return joined(one, other, sum_row, plus)[0]


def root_times(one, other):
    return joined(one, other, product_row, times)[0]


def root_minus(one):
    grip_of(one)
    whole, place = one
    told = upright([-number if power % 2 == 1 else number for power, number in enumerate(whole)])
    return (told, roots_between(whole, -root_bound(whole), root_bound(whole)) - 1 - place)


def root_over(one):
    grip_of(one)
    whole, place = one
    if whole == [0, 1]:
        raise NoNumber("1 over the root 0")
    told = upright(list(reversed(whole)))
    below = roots_between(whole, -root_bound(whole), 0)
    if place < below:
        return (told, below - 1 - place)
    # Above 0, as below it, the order is turned round.
    return (told, below + roots_between(whole, -root_bound(whole), root_bound(whole)) - 1 - place)


def upright(numbers):
    return scaled(numbers, -1) if numbers[-1] < 0 else numbers


def roots_between(whole, low, high):
    return counted(counting_chain(whole), (low, 1), (high, 1))


# A tuple (root, row, stretches) of what two roots come to: the row is 0 at whatever a root of the one's row and
# a root of the other's come to; the stretches of the one, the other and the root are narrow enough that all ends
# of the first two come to numbers within the third, in which the row has one root alone.
def joined(one, other, row_for, join):
    grip = grip_of(one)
    other_grip = grip_of(other)
    row = row_for(one[0], other[0])
    chain = counting_chain(primitive(row)[0])
    low, high = joined_stretch(grip, other_grip, join)
    while counted(chain, low, high) > 1:
        grip.halve()
        other_grip.halve()
        low, high = joined_stretch(grip, other_grip, join)
    return (root_within(row, low, high), row, [grip.stretch(), other_grip.stretch(), (low, high)])


def joined_stretch(grip, other, join):
    ends = []
    for end in grip.stretch():
        for further in other.stretch():
            ends.append(join(end, further))
    least, most = ends[0], ends[0]
    for end in ends:
        least = end if under(end, least) else least
        most = end if under(most, end) else most
    # A stretch holds its high end but not its low one: so it begins somewhat below.
    return (minus(least, minus(most, least)), most)


# The one root of the row that lies in the stretch.
def root_within(row, low, high):
    parts = [part for part, often in split(row)[1]]
    whole = [part for part in parts if counted(counting_chain(part), low, high) == 1][0]
    return (whole, counted(counting_chain(whole), (-root_bound(whole), 1), low))


# The monic row whose roots are the sums of a root of the one and a root of the other.
def sum_row(one, other):
    degree = (len(one) - 1) * (len(other) - 1)
    sums, other_sums = power_sums(one, degree), power_sums(other, degree)
    told = []
    ways = [1]
    for power in range(degree + 1):
        total = (0, 1)
        for place, many in enumerate(ways):
            total = plus(total, times((many, 1), times(sums[place], other_sums[power - place])))
        told.append(total)
        ways = [1] + [ways[place] + ways[place + 1] for place in range(power)] + [1]
    return row_with_sums(told)


def product_row(one, other):
    degree = (len(one) - 1) * (len(other) - 1)
    sums, other_sums = power_sums(one, degree), power_sums(other, degree)
    return row_with_sums([times(number, factor) for number, factor in zip(sums, other_sums)])


# The sums of the powers 0 to most of all roots of a whole row, those that are no fractions and the others, too.
def power_sums(whole, most):
    degree = len(whole) - 1
    monic = [fraction(number, whole[-1]) for number in whole]
    told = [(degree, 1)]
    for power in range(1, most + 1):
        total = times((power, 1), monic[degree - power]) if power <= degree else (0, 1)
        for back in range(1, min(power - 1, degree) + 1):
            total = plus(total, times(monic[degree - back], told[power - back]))
        told.append(negated(total))
    return told


# The monic row of as many roots as there are sums behind the first, by the sums of their powers.
def row_with_sums(sums):
    told = [(1, 1)]
    for power in range(1, len(sums)):
        total = sums[power]
        for back in range(1, power):
            total = plus(total, times(told[back], sums[power - back]))
        told.append(negated(over(total, (power, 1))))
    return list(reversed(told))
