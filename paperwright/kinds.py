"""Kinds: how the things that a claim or a paper is made of must be written. What is written otherwise is none.

Whatever is asked about may be anything at all, so each test looks at what a thing is ahead of what it holds.
A truth counts as a number to Python, and True equals 1: that is why numbers are asked by `is_number` first.
"""

from paperwright.divisors import primitive, whole_divisor
from paperwright.fractions import under
from paperwright.numbers import gcd, is_prime
from paperwright.wholes import is_whole

MOST_NUMBERS = 200
MOST_SIGNS = 1000
GREATEST_PRIME = 9973


def is_nothing(thing):
    return thing is None


def is_number(thing):
    return isinstance(thing, int) and not isinstance(thing, bool)


def is_how_often(thing):
    return is_number(thing) and thing >= 1


def is_prime_within(thing):
    return is_number(thing) and 2 <= thing <= GREATEST_PRIME and is_prime(thing)


def is_text(thing):
    return isinstance(thing, str) and len(thing) <= MOST_SIGNS


def is_tuple_of(thing, many):
    return isinstance(thing, tuple) and len(thing) == many


def is_fraction(thing):
    if not is_tuple_of(thing, 2) or not is_number(thing[0]) or not is_number(thing[1]):
        return False
    return thing[1] >= 1 and gcd(thing[0], thing[1]) == 1


# A list that isn't too long for a row.
def is_short(thing):
    return isinstance(thing, list) and len(thing) <= MOST_NUMBERS


def is_row(thing):
    if not is_short(thing) or not all([is_fraction(number) for number in thing]):
        return False
    return thing == [] or thing[-1] != (0, 1)


def are_numbers(thing):
    return is_short(thing) and all([is_number(number) for number in thing])


def is_whole_row(thing):
    return are_numbers(thing) and is_whole(thing)


# A part by a power of a prime, as it stands in a wholeness. (How great its numbers may be hangs on that power.)
def is_monic_part(thing):
    return are_numbers(thing) and len(thing) > 1 and thing[-1] == 1 and min(thing) >= 0


def is_wholeness(thing):
    if not is_tuple_of(thing, 3) or not is_prime_within(thing[0]) or not is_how_often(thing[1]):
        return False
    return isinstance(thing[2], list) and all([is_monic_part(part) for part in thing[2]])


def is_root(thing):
    return is_tuple_of(thing, 2) and is_whole_row(thing[0]) and is_number(thing[1]) and thing[1] >= 0


def is_stretch(thing):
    return is_tuple_of(thing, 2) and is_fraction(thing[0]) and is_fraction(thing[1]) and under(thing[0], thing[1])


def is_quotient(thing):
    if not is_tuple_of(thing, 2) or not is_row(thing[0]) or not is_row(thing[1]):
        return False
    top, bottom = thing
    if bottom == [] or bottom[-1] != (1, 1):
        return False
    return len(whole_divisor(primitive(top)[0], primitive(bottom)[0])) == 1


def is_piece(thing):
    if not is_tuple_of(thing, 3) or not is_whole_row(thing[0]) or not is_how_often(thing[1]):
        return False
    return is_row(thing[2]) and 0 < len(thing[2]) < len(thing[0])


KINDS = {
    "nothing": is_nothing,
    "number": is_number,
    "how often": is_how_often,
    "text": is_text,
    "fraction": is_fraction,
    "row": is_row,
    "whole row": is_whole_row,
    "wholeness": is_wholeness,
    "root": is_root,
    "stretch": is_stretch,
    "quotient": is_quotient,
    "piece": is_piece,
}

# Kinds that are lists, with the kind of what stands in them.
LISTS = {
    "parts": ("whole row", "how often"),
    "shown parts": ("whole row", "how often", "wholeness"),
    "point": ("text", "fraction"),
    "wholenesses": "wholeness",
    "stretches": "stretch",
    "pieces": "piece",
}


# Whether the thing is of the kind. A tuple of kinds is the kind of the tuples with one thing of each, in order.
def fits(kind, thing):
    if isinstance(kind, tuple):
        return is_tuple_of(thing, len(kind)) and all([fits(one, part) for one, part in zip(kind, thing)])
    if kind in LISTS:
        return isinstance(thing, list) and all([fits(LISTS[kind], part) for part in thing])
    check = KINDS[kind]
    return check(thing)
