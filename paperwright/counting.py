"""How many roots a row has, by the changes of sign in its chain."""

from paperwright.chains import sturm_chain
from paperwright.wholes import shortened, whole_over, whole_value


# The chain of the row, of degree 1 or more, each of its roots taken once.
def counting_chain(numbers):
    chain = sturm_chain(numbers)
    if len(chain[-1]) == 1:
        return chain
    return sturm_chain(whole_over(numbers, shortened(chain[-1])[1]))


def changes(chain, at):
    told = 0
    before = 0
    for numbers in chain:
        value = whole_value(numbers, at[0], at[1])
        if value != 0:
            if before != 0 and (value > 0) != (before > 0):
                told = told + 1
            before = value
    return told


# How many of the chain's roots lie in the stretch.
def counted(chain, low, high):
    return changes(chain, low) - changes(chain, high)


# A whole number above the size of each root of the row, of degree 1 or more.
def root_bound(numbers):
    return max([abs(number) for number in numbers]) // abs(numbers[-1]) + 2
