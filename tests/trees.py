"""Expressions as nested tuples, with a plain second reckoning of texts, values and quotients.

A tree is ("number", 3), ("name", "x"), ("power", tree, 2), ("minus", tree) or (sign, tree, tree).
"""

from fractions import Fraction

SIGNS = "+-*/"


class NoOutcome(Exception):
    pass


def random_tree(chance, depth, names, numbers=5, powers=3):
    kind = chance.randint(0, 9)
    if depth == 0 or kind == 0:
        if chance.random() < 0.5:
            return ("number", chance.randint(0, numbers))
        return ("name", chance.choice(names))
    if kind == 1:
        return ("power", random_tree(chance, depth - 1, names, numbers, powers), chance.randint(0, powers))
    if kind == 2:
        return ("minus", random_tree(chance, depth - 1, names, numbers, powers))
    left = random_tree(chance, depth - 1, names, numbers, powers)
    return (chance.choice(SIGNS), left, random_tree(chance, depth - 1, names, numbers, powers))


def full_text(tree):
    """The text with brackets round all that is made of other things."""
    kind = tree[0]
    if kind in ("number", "name"):
        return str(tree[1])
    if kind == "power":
        return f"({full_text(tree[1])})^{tree[2]}"
    if kind == "minus":
        return f"-({full_text(tree[1])})"
    return f"({full_text(tree[1])}) {kind} ({full_text(tree[2])})"


def value(tree, point):
    kind = tree[0]
    if kind == "number":
        return Fraction(tree[1])
    if kind == "name":
        if tree[1] not in point:
            raise NoOutcome
        return point[tree[1]]
    one = value(tree[1], point)
    if kind == "power":
        return one ** tree[2]
    if kind == "minus":
        return -one
    other = value(tree[2], point)
    if kind == "/":
        if other == 0:
            raise NoOutcome
        return one / other
    return {"+": one + other, "-": one - other, "*": one * other}[kind]


def poly_times(one, other):
    told = {}
    for left, number in one.items():
        for right, factor in other.items():
            exponents = dict(left)
            for name, exponent in right:
                exponents[name] = exponents.get(name, 0) + exponent
            product = tuple(sorted(exponents.items()))
            told[product] = told.get(product, 0) + number * factor
    return {product: number for product, number in told.items() if number}


def poly_plus(one, other, sign=1):
    told = dict(one)
    for product, number in other.items():
        told[product] = told.get(product, 0) + sign * number
    return {product: number for product, number in told.items() if number}


def quotient(tree):
    kind = tree[0]
    unit = {(): Fraction(1)}
    if kind == "number":
        return ({(): Fraction(tree[1])} if tree[1] else {}), unit
    if kind == "name":
        return {((tree[1], 1),): Fraction(1)}, unit
    a, b = quotient(tree[1])
    if kind == "power":
        top, bottom = unit, unit
        for _ in range(tree[2]):
            top, bottom = poly_times(top, a), poly_times(bottom, b)
        return top, bottom
    if kind == "minus":
        return poly_plus({}, a, -1), b
    c, d = quotient(tree[2])
    if kind == "*":
        return poly_times(a, c), poly_times(b, d)
    if kind == "/":
        if not c:
            raise NoOutcome
        return poly_times(a, d), poly_times(b, c)
    return poly_plus(poly_times(a, d), poly_times(c, b), 1 if kind == "+" else -1), poly_times(b, d)


def names(tree):
    if tree[0] == "name":
        return {tree[1]}
    return set().union(*[names(part) for part in tree[1:] if isinstance(part, tuple)])
