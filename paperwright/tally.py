"""The checker's own count of roots. It draws on nothing by which the house counts: a fault there is then seen here."""

from paperwright.divisors import primitive
from paperwright.wholes import scaled, shortened, whole_divided, whole_over, whole_slope, whole_value


# Sturm's row of a row that isn't [], each root of it taken once. Its members are rows of whole numbers, each a
# number above 0 times what Sturm's row has there.
def tally_of(row):
    numbers = primitive(row)[0]
    chain = turned_rests(numbers)
    if len(chain[-1]) == 1:
        return chain
    return turned_rests(whole_over(numbers, chain[-1]))


# Of a row without a common divisor in its numbers; and so are all members, too.
def turned_rests(numbers):
    told = [numbers, shortened(whole_slope(numbers))[1]]
    while told[-1] != []:
        quotient, rest, scale = whole_divided(told[-2], told[-1])
        rest = shortened(rest)[1]
        told.append(rest if scale < 0 else scaled(rest, -1))
    return told[:-1]


def changes(values):
    told = 0
    before = 0
    for value in values:
        if value != 0:
            if before != 0 and (value > 0) != (before > 0):
                told = told + 1
            before = value
    return told


# The last number of a row tells its sign far out on the right, and on the left, too, but for odd degrees.
def changes_on_the_left(chain):
    return changes([numbers[-1] if len(numbers) % 2 == 1 else -numbers[-1] for numbers in chain])


def all_roots(chain):
    return changes_on_the_left(chain) - changes([numbers[-1] for numbers in chain])


# How many roots are at the fraction or below it.
def roots_up_to(chain, at):
    return changes_on_the_left(chain) - changes([whole_value(numbers, at[0], at[1]) for numbers in chain])


# How many roots x have low < x <= high.
def roots_within(chain, low, high):
    return roots_up_to(chain, high) - roots_up_to(chain, low)
