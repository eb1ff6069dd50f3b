"""Expressions: their values, quotients, texts and names.

An expression is kept as steps, its parts ahead of what is made of them: `x - 2` is the name x,
the number 2, the difference of the last two. A long sum would be too deep for a walk that
goes into the parts of parts; steps are walked from the left, whatever their depth.
"""

from paperwright.errors import NoValue
from paperwright.fractions import minus, negated, over, plus, power, times
from paperwright.polynomials import (
    number_at, poly_minus, poly_negated, poly_of_name, poly_of_number, poly_plus, poly_power, poly_times,
)

# How close a text holds together, from the loosest on.
SUM = 1
TERM = 2
FACTOR = 3
ATOM = 4


# A step is a tuple (kind, what): of the kind number, name or power with the number, name or exponent,
# or of the kind minus, +, -, * or / with 0.
class Expression:
    def __init__(self, steps):
        self.steps = tuple(steps)

    def value(self, point):
        def leaf_value(kind, what):
            return (what, 1) if kind == "number" else number_at(what, point)
        return walked(self.steps, leaf_value, lone_value, joint_value)

    def quotient(self):
        top, bottom, divisors = quotient_with_divisors(self)
        return (top, bottom)

    def shown(self):
        return walked(self.steps, leaf_text, lone_text, joint_text)[0]

    def names(self):
        found = {}
        for kind, what in self.steps:
            if kind == "name":
                found[what] = True
        return sorted(found)


# Leaf tells what a number or a name comes to, lone what a power or a minus makes of one thing,
# joint what comes of two.
def walked(steps, leaf, lone, joint):
    waiting = []
    for kind, what in steps:
        if kind in ("number", "name"):
            waiting.append(leaf(kind, what))
        elif kind in ("power", "minus"):
            waiting.append(lone(kind, what, waiting.pop()))
        else:
            other = waiting.pop()
            waiting.append(joint(kind, waiting.pop(), other))
    return waiting.pop()


def lone_value(kind, what, one):
    return power(one, what) if kind == "power" else negated(one)


def joint_value(kind, one, other):
    if kind == "+":
        return plus(one, other)
    if kind == "-":
        return minus(one, other)
    if kind == "*":
        return times(one, other)
    if other == (0, 1):
        raise NoValue("a bottom is 0")
    return over(one, other)


# A tuple (top, bottom, divisors), the divisors being the tops of all that is divided by within: at a point
# with all its names the expression has a value just where none of these is 0, and there its bottom isn't 0.
def quotient_with_divisors(expression):
    return walked(expression.steps, leaf_quotient, lone_quotient, joint_quotient)


def leaf_quotient(kind, what):
    top = poly_of_number(what) if kind == "number" else poly_of_name(what)
    return (top, poly_of_number(1), ())


def lone_quotient(kind, what, one):
    top, bottom, divisors = one
    if kind == "power":
        return (poly_power(top, what), poly_power(bottom, what), divisors)
    return (poly_negated(top), bottom, divisors)


def joint_quotient(kind, one, other):
    top, bottom, divisors = one
    other_top, other_bottom, other_divisors = other
    divisors = divisors + other_divisors
    if kind == "*":
        return (poly_times(top, other_top), poly_times(bottom, other_bottom), divisors)
    crossed = poly_times(top, other_bottom)
    if kind == "/":
        if other_top == {}:
            raise NoValue("a quotient by 0")
        return (crossed, poly_times(bottom, other_top), divisors + (other_top,))
    other_crossed = poly_times(other_top, bottom)
    total = poly_plus(crossed, other_crossed) if kind == "+" else poly_minus(crossed, other_crossed)
    return (total, poly_times(bottom, other_bottom), divisors)


def leaf_text(kind, what):
    return (f"{what}", ATOM)


def lone_text(kind, what, one):
    if kind == "power":
        base = bracketed(one, ATOM)
        return (f"{base}^{what}", FACTOR)
    factor = bracketed(one, FACTOR)
    return (f"-{factor}", FACTOR)


# Sums and terms are read from the left, so what stands on the right must hold closer.
def joint_text(kind, one, other):
    level = SUM if kind in ("+", "-") else TERM
    left = bracketed(one, level)
    right = bracketed(other, level + 1)
    return (f"{left} {kind} {right}", level)


def bracketed(part, level):
    text, own_level = part
    return text if own_level >= level else f"({text})"
