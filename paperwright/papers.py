"""Papers: the house's answers as claims, each with the paper by which the checker takes it."""

from paperwright.areas import area
from paperwright.divisors import greatest
from paperwright.errors import NoRow
from paperwright.fractions import plus, times
from paperwright.grips import grip_of
from paperwright.pieces import pieces
from paperwright.reading import read
from paperwright.roots import gripped_sign
from paperwright.rootsums import joined, product_row, sum_row
from paperwright.rows import divided, slope
from paperwright.sides import parting
from paperwright.splitting import split, wholeness
from paperwright.stretches import stretches
from paperwright.sums import summed


# A claim and its paper, as they are told: nothing in them is shared with anything else, or by the two of them.
def told(claim, paper):
    return (copied(claim), copied(paper))


def copied(thing):
    if isinstance(thing, list):
        return [copied(part) for part in thing]
    if isinstance(thing, tuple):
        return tuple([copied(part) for part in thing])
    return thing


def paper_common(f, g):
    d, u, v = greatest(f, g)
    if d == []:
        return told(("common", f, g, d), (u, v, [], []))
    return told(("common", f, g, d), (u, v, divided(f, d)[0], divided(g, d)[0]))


def paper_bare(f):
    return told(("bare", f), bareness(f))


def bareness(f):
    d, u, v = greatest(f, slope(f))
    if d != [(1, 1)]:
        raise NoRow("the row isn't bare")
    return (u, v)


def paper_split(f):
    if len(f) < 2:
        raise NoRow("a splitting of a row of degree 0 or of the row 0")
    c, parts = split(f)
    return told(("split", f, c, parts), [wholeness(part) for part, often in parts])


def paper_roots(f):
    if len(f) < 2:
        raise NoRow("the roots of a row of degree 0 or of the row 0")
    paper = bareness(f)
    return told(("roots", f, stretches(f)), paper)


def paper_sides(one, other):
    # The one is asked for its quotient ahead of the other's reading: its refusals go first.
    first = read(one)
    first.quotient()
    point = parting(first, read(other))
    if point is None:
        return told(("same", one, other), None)
    return told(("unlike", one, other), sorted(point.items()))


def paper_sign(f, root):
    grip = grip_of(root)
    s = gripped_sign(f, grip)
    low, high = grip.stretch()
    return told(("sign", f, root, s), (wholeness(root[0]), low, high))


def paper_plus(a, b):
    return paper_joined("plus", a, b, sum_row, plus)


def paper_times(a, b):
    return paper_joined("times", a, b, product_row, times)


def paper_joined(word, a, b, row_for, join):
    c, r, found = joined(a, b, row_for, join)
    return told((word, a, b, c), ([wholeness(root[0]) for root in [a, b, c]], r, found))


def paper_parted(t):
    row, found = pieces(t)
    return told(("parted", t, row, found), [wholeness(part) for part in unlike_parts(found)])


def unlike_parts(found):
    parts = []
    for part, often, top in found:
        if part not in parts:
            parts.append(part)
    return parts


def paper_sum(t):
    answer = summed(t)
    if answer[0]:
        return told(("sum", t, answer[1]), None)
    found, r = answer[1:]
    parts = [(part, often, wholeness(part)) for part, often in split(r[1])[1]]
    return told(("no sum", t), (found, r, parts))


def paper_area(t):
    answer = area(t)
    if answer[0]:
        return told(("area", t, answer[1]), None)
    found, r = answer[1:]
    return told(("no area", t), (found, r, None))
