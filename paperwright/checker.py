"""The checker: whether a claim and its paper are as they must be. It trusts nobody.

It draws on numbers, fractions, rows, divisors, polynomials and expressions, and on nothing by which the house
finds its answers. Each check is handed a claim and a paper that are of their kinds; in it, what costs little is
asked ahead of what costs much.
"""

from paperwright.claims import is_claim, is_paper
from paperwright.divisors import bare_parts
from paperwright.errors import NoText, NoValue
from paperwright.fractions import plus, times, under
from paperwright.polynomials import poly_times
from paperwright.reading import read
from paperwright.rows import divided, row_minus, row_moved, row_plus, row_times, row_value, slope
from paperwright.tally import all_roots, roots_up_to, roots_within, tally_of
from paperwright.together import ends_lie_within, is_nought_at_products, is_nought_at_sums
from paperwright.unsplit import shows_unsplit
from paperwright.wholes import cleared, row_over, scaled, whole_moved, whole_plus, whole_times


def common_holds(claim, paper):
    word, f, g, d = claim
    u, v, a, b = paper
    if d != [] and d[-1] != (1, 1):
        return False
    return row_times(a, d) == f and row_times(b, d) == g and come_to(u, f, v, g, d)


def bare_holds(claim, paper):
    return is_shown_bare(claim[1], paper)


def is_shown_bare(f, paper):
    u, v = paper
    return come_to(u, f, v, slope(f), [(1, 1)])


# Whether u f + v g = d. Cofactors may have very long numbers: over one bottom none has to be brought to lowest terms.
def come_to(u, f, v, g, d):
    one, bottom = product_over_bottom(u, f)
    other, other_bottom = product_over_bottom(v, g)
    numbers, part = cleared(d)
    total = whole_plus(scaled(one, other_bottom), scaled(other, bottom))
    return scaled(total, part) == scaled(numbers, bottom * other_bottom)


def product_over_bottom(one, other):
    numbers, bottom = cleared(one)
    other_numbers, other_bottom = cleared(other)
    return (whole_times(numbers, other_numbers), bottom * other_bottom)


def unsplit_holds(claim, paper):
    return shows_unsplit(claim[1], paper)


def are_unsplit(wholes, wholenesses):
    if len(wholes) != len(wholenesses):
        return False
    return all([shows_unsplit(whole, wholeness) for whole, wholeness in zip(wholes, wholenesses)])


def split_holds(claim, paper):
    word, f, c, parts = claim
    wholes = [part for part, often in parts]
    if len(f) < 2 or not are_rising([rank(whole) for whole in wholes]) or not degrees_agree(parts, f):
        return False
    return row_times([c], product_of(parts)) == f and are_unsplit(wholes, paper)


# By degree, then by the numbers from the greatest power on.
def rank(whole):
    return (len(whole), list(reversed(whole)))


# Whether each is less than the next one; so no two are alike.
def are_rising(ranks):
    return all([one < other for one, other in zip(ranks, ranks[1:])])


# Whether the product of the parts has the row's degree. This goes ahead of the product itself,
# so that no part is taken more often than the row's degree.
def degrees_agree(parts, row):
    return sum([often * (len(part) - 1) for part, often in parts]) == len(row) - 1


def product_of(parts):
    product = [1]
    for part, often in parts:
        for time in range(often):
            product = whole_times(product, part)
    return as_row(product)


def as_row(whole):
    return row_over(whole, 1)


def roots_holds(claim, paper):
    word, f, stretches = claim
    if len(f) < 2 or not is_shown_bare(f, paper):
        return False
    chain = tally_of(f)
    # As many stretches as roots, apart from one another and with one root each: so each root is in one.
    if all_roots(chain) != len(stretches):
        return False
    for ahead, behind in zip(stretches, stretches[1:]):
        if under(behind[0], ahead[1]):
            return False
    return all([roots_within(chain, low, high) == 1 for low, high in stretches])


def same_holds(claim, paper):
    word, e, g = claim
    one, other = quotient_or_none(e), quotient_or_none(g)
    if one is None or other is None:
        return False
    return poly_times(one[0], other[1]) == poly_times(other[0], one[1])


def quotient_or_none(text):
    try:
        return read(text).quotient()
    except NoText:
        return None
    except NoValue:
        return None


def unlike_holds(claim, paper):
    word, e, g = claim
    one, other = read_or_none(e), read_or_none(g)
    if one is None or other is None:
        return False
    names = one.names()
    names = names + [name for name in other.names() if name not in names]
    if [name for name, number in paper] != sorted(names):
        return False
    value, other_value = value_or_none(one, dict(paper)), value_or_none(other, dict(paper))
    return value is not None and other_value is not None and value != other_value


def read_or_none(text):
    try:
        return read(text)
    except NoText:
        return None


def value_or_none(expression, point):
    try:
        return expression.value(point)
    except NoValue:
        return None


def sign_holds(claim, paper):
    word, f, root, s = claim
    wholeness, low, high = paper
    if not is_gripped(root, low, high) or not shows_unsplit(root[0], wholeness):
        return False
    if divided(f, as_row(root[0]))[1] == []:
        return s == 0
    if row_value(f, low) == (0, 1) or roots_within(tally_of(f), low, high) != 0:
        return False
    return s == (1 if row_value(f, high)[0] > 0 else -1)


# Whether the stretch has this root of its row alone, so that the row has such a root, too.
def is_gripped(root, low, high):
    whole, place = root
    chain = tally_of(as_row(whole))
    return roots_up_to(chain, low) == place and roots_up_to(chain, high) == place + 1


def plus_holds(claim, paper):
    return joined_holds(claim, paper, is_nought_at_sums, plus)


def times_holds(claim, paper):
    return joined_holds(claim, paper, is_nought_at_products, times)


# What a and b come to is a root of r and lies in c's stretch, as c does; and r has no other root there.
def joined_holds(claim, paper, is_nought, join):
    word, a, b, c = claim
    wholenesses, r, stretches = paper
    if len(stretches) != 3 or r == [] or divided(r, as_row(c[0]))[1] != []:
        return False
    low, high = stretches[2]
    if not ends_lie_within(stretches[0], stretches[1], join, low, high):
        return False
    for root, stretch in zip([a, b, c], stretches):
        if not is_gripped(root, stretch[0], stretch[1]):
            return False
    if roots_within(tally_of(r), low, high) != 1 or not is_nought(r, a[0], b[0]):
        return False
    return are_unsplit([a[0], b[0], c[0]], wholenesses)


def parted_holds(claim, paper):
    word, t, row, pieces = claim
    top, bottom = t
    if not are_rising([(rank(part), often) for part, often, piece_top in pieces]):
        return False
    parts = greatest_powers(pieces)
    if not degrees_agree(parts, bottom) or not is_product(parts, bottom):
        return False
    total = row_times(row, bottom)
    for part, often, piece_top in pieces:
        total = row_plus(total, row_times(piece_top, divided(bottom, product_of([(part, often)]))[0]))
    return total == top and are_unsplit([part for part, often in parts], paper)


# Each unlike part of rising pieces, with the greatest how often.
def greatest_powers(pieces):
    told = []
    for part, often, top in pieces:
        if told != [] and told[-1][0] == part:
            told.pop()
        told.append((part, often))
    return told


# Whether the monic row is the product of the parts but for a fraction.
def is_product(parts, row):
    product = product_of(parts)
    return product == row_times(product[-1:], row)


def sum_holds(claim, paper):
    word, t, found = claim
    return is_made_of(t, difference(found), ([], [(1, 1)]))


def area_holds(claim, paper):
    word, t, found = claim
    return is_made_of(t, quotient_slope(found), ([], [(1, 1)]))


def no_sum_holds(claim, paper):
    found, r, shown = paper
    parts = [(part, often) for part, often, wholeness in shown]
    wholes = [part for part, often in parts]
    if not is_proper(r) or not degrees_agree(parts, r[1]) or not is_product(parts, r[1]):
        return False
    if not are_no_moves(wholes) or not is_made_of(claim[1], difference(found), r):
        return False
    return are_unsplit(wholes, [wholeness for part, often, wholeness in shown])


def no_area_holds(claim, paper):
    found, r, nothing = paper
    if not is_proper(r) or bare_parts(r[1]) != [(r[1], 1)]:
        return False
    return is_made_of(claim[1], quotient_slope(found), r)


# Whether the quotient isn't 0, with a top of lesser degree than its bottom.
def is_proper(quotient):
    return 0 < len(quotient[0]) < len(quotient[1])


# Whether no two of the whole rows are alike, or one the other moved by a whole number.
def are_no_moves(wholes):
    for place, one in enumerate(wholes):
        if any([is_move(one, other) for other in wholes[:place]]):
            return False
    return True


# The number ahead of the last one tells how far a row would have to be moved.
def is_move(one, other):
    way = (other[-2] - one[-2]) // ((len(one) - 1) * one[-1])
    return whole_moved(one, way, 1) == other


# Tuples (top, bottom) with nothing shortened: what a quotient's sum or area makes.
def difference(quotient):
    top, bottom = quotient
    moved, moved_bottom = row_moved(top, (1, 1)), row_moved(bottom, (1, 1))
    return (row_minus(row_times(moved, bottom), row_times(top, moved_bottom)), row_times(moved_bottom, bottom))


def quotient_slope(quotient):
    top, bottom = quotient
    above = row_minus(row_times(slope(top), bottom), row_times(top, slope(bottom)))
    return (above, row_times(bottom, bottom))


# Whether the quotient is the sum of the two, multiplied out.
def is_made_of(quotient, one, other):
    top = row_plus(row_times(one[0], other[1]), row_times(other[0], one[1]))
    return row_times(top, quotient[1]) == row_times(quotient[0], row_times(one[1], other[1]))


CHECKS = {
    "common": common_holds,
    "bare": bare_holds,
    "unsplit": unsplit_holds,
    "split": split_holds,
    "roots": roots_holds,
    "same": same_holds,
    "unlike": unlike_holds,
    "sign": sign_holds,
    "plus": plus_holds,
    "times": times_holds,
    "parted": parted_holds,
    "sum": sum_holds,
    "area": area_holds,
    "no sum": no_sum_holds,
    "no area": no_area_holds,
}


def holds(claim, paper):
    if not is_claim(claim) or not is_paper(claim[0], paper):
        return False
    check = CHECKS[claim[0]]
    return check(claim, paper)
