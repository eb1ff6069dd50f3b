"""Two roots taken together: of which rows their sum or their product is a root, and between which ends it lies.

A table stands for a row in two unknowns y and z, divided with rest by the one root's row in y and by the other
one's in z: its line i and place j hold the number of y ** i z ** j. It is kept as whole numbers, each time as many
times too great as the last numbers of the two rows together come to; whether it is 0 doesn't hang on that.
"""

from paperwright.divisors import primitive
from paperwright.fractions import under
from paperwright.wholes import scaled


# Whether row(y + z) comes to 0.
def is_nought_at_sums(row, one, other):
    return is_nought(row, one, other, times_sum)


# Whether row(y z) comes to 0.
def is_nought_at_products(row, one, other):
    return is_nought(row, one, other, times_product)


# The row's numbers are taken in from the greatest power on, what is there being multiplied by y + z or y z each time.
def is_nought(row, one, other, multiplied):
    table = [[0] * (len(other) - 1) for line in one[1:]]
    scale = 1
    for number in reversed(primitive(row)[0]):
        table = multiplied(table, one, other)
        scale = scale * one[-1] * other[-1]
        table[0][0] = table[0][0] + number * scale
    return not any([any(line) for line in table])


def times_sum(table, one, other):
    by_first = times_first(table, one)
    by_second = turned(times_first(turned(table), other))
    told = []
    for line, further in zip(by_first, by_second):
        told.append([other[-1] * number + one[-1] * added for number, added in zip(line, further)])
    return told


def times_product(table, one, other):
    return turned(times_first(turned(times_first(table, one)), other))


# The table times its first unknown, and times the row's last number: what comes to the row's degree is
# the other numbers' with a minus.
def times_first(table, row):
    last = table[-1]
    told = [scaled(last, -row[0])]
    for place, line in enumerate(table[:-1]):
        told.append([row[-1] * number - row[place + 1] * top for number, top in zip(line, last)])
    return told


# The table with its two unknowns changed about.
def turned(table):
    told = []
    for place in range(len(table[0])):
        told.append([line[place] for line in table])
    return told


# Whether all that an end of the one stretch and an end of the other come to is above low and at most high.
def ends_lie_within(one, other, join, low, high):
    for end in one:
        for further in other:
            outcome = join(end, further)
            if not under(low, outcome) or under(high, outcome):
                return False
    return True
