"""Rows over one bottom: lists of whole numbers, the last not 0, on which the work of rows is done.

Numbers in lowest terms cost a greatest common divisor at each step. Over one bottom
there is one for each number that is told, however many steps there were.
"""

from paperwright.fractions import fraction
from paperwright.numbers import gcd, raised


def cleared(row):
    bottom = 1
    for number in row:
        part = number[1]
        if bottom % part != 0:
            bottom = (bottom // gcd(bottom, part)) * part
    return ([number[0] * (bottom // number[1]) for number in row], bottom)


def row_over(numbers, bottom):
    return [fraction(number, bottom) for number in trimmed(numbers)]


def trimmed(numbers):
    length = len(numbers)
    while length > 0 and numbers[length - 1] == 0:
        length = length - 1
    return numbers[:length]


def scaled(numbers, by):
    return [by * number for number in numbers]


def whole_plus(one, other):
    length = max(len(one), len(other))
    told = list(one) + [0] * (length - len(one))
    for place, number in enumerate(other):
        told[place] = told[place] + number
    return trimmed(told)


def whole_minus(one, other):
    return whole_plus(one, scaled(other, -1))


def whole_times(one, other):
    if one == [] or other == []:
        return []
    told = [0] * (len(one) + len(other) - 1)
    for place, number in enumerate(one):
        if number != 0:
            for further, factor in enumerate(other):
                told[place + further] = told[place + further] + number * factor
    return told


# The value at top / bottom, times the bottom to the power of the row's degree: a whole number of the same sign.
def whole_value(numbers, top, bottom):
    total = 0
    scale = 1
    for number in reversed(numbers):
        total = total * top + number * scale
        scale = scale * bottom
    return total


# The row in y that comes of top / bottom + y / bottom in the place of x, times the bottom to the power of its degree.
def whole_moved(numbers, top, bottom):
    last = len(numbers) - 1
    moved = [number * raised(bottom, last - place) for place, number in enumerate(numbers)]
    for low in range(last):
        for place in range(last - 1, low - 1, -1):
            moved[place] = moved[place] + top * moved[place + 1]
    return moved


def whole_slope(numbers):
    return [place * number for place, number in enumerate(numbers)][1:]


# A tuple (quotient, rest, scale): scale times the one is the quotient times the other and the rest.
# The scale is the other's last number once for each number that the quotient has room for.
def whole_divided(one, other):
    room = max(len(one) - len(other) + 1, 0)
    lead = other[-1]
    rest = list(one)
    quotient = [0] * room
    for place in range(room - 1, -1, -1):
        head = rest.pop()
        quotient[place] = head
        rest = scaled(rest, lead)
        for further in range(len(other) - 1):
            rest[place + further] = rest[place + further] - head * other[further]
    scale = 1
    # A head was found with as many factors lead missing as there are places below it.
    for place in range(room):
        quotient[place] = quotient[place] * scale
        scale = scale * lead
    return (quotient, trimmed(rest), scale)


# Of two rows that aren't [], the other of which divides the one with a quotient of whole numbers: that quotient.
def whole_over(one, other):
    room = len(one) - len(other) + 1
    rest = list(one)
    quotient = [0] * room
    for place in range(room - 1, -1, -1):
        head = rest.pop() // other[-1]
        quotient[place] = head
        for further in range(len(other) - 1):
            rest[place + further] = rest[place + further] - head * other[further]
    return quotient


# A tuple (content, primitive): the greatest common divisor of the numbers, and the row without it.
def shortened(numbers):
    content = 0
    for number in numbers:
        content = gcd(number, content)
        if content == 1:
            return (1, list(numbers))
    return (content, [number // content for number in numbers])


# Whether a list of whole numbers is a whole row: of degree 1 or more, the last above 0, nothing in common.
def is_whole(numbers):
    return len(numbers) > 1 and numbers[-1] > 0 and shortened(numbers)[0] == 1


# Parts, each with how often it comes, by degree, then by the numbers from the greatest power on.
def rising(parts):
    return sorted(parts, key=rank)


def rank(pair):
    return (len(pair[0]), list(reversed(pair[0])), pair[1])
