"""Claims and papers bent at one place, however deep it stands, and a second judge of what is claimed."""

import random

from paperwright.divisors import bare_parts, greatest
from paperwright.errors import HouseError
from paperwright.pieces import pieces, quotient_of
from paperwright.reading import read
from paperwright.roots import sign_at
from paperwright.rootsums import root_plus, root_times
from paperwright.rows import row_minus, row_moved, row_times, slope
from paperwright.sides import parting
from paperwright.areas import area
from paperwright.splitting import split, wholeness
from paperwright.sturm import count
from paperwright.sums import summed
from reference import to_fraction

FAR = 10 ** 40


def others(thing):
    """What may stand in the thing's own place instead of it."""
    told = [True, False, None, {}, {"x": thing}, "", "x", 0, 1, [], (), [thing], (thing,)]
    if isinstance(thing, str):
        told += [thing + thing, thing + " ", thing + " + 1", thing[:-1], "-" + thing]
    elif isinstance(thing, int) and not isinstance(thing, bool):
        told += [thing + 1, thing - 1, -thing, 2 * thing, str(thing), thing == 1, 10 ** 60]
    elif isinstance(thing, (list, tuple)):
        kind, other = (list, tuple) if isinstance(thing, list) else (tuple, list)
        told += [other(thing), kind(reversed(thing)), dict(enumerate(thing))]
        for place in range(len(thing)):
            left = list(thing[:place]) + list(thing[place + 1:])
            told += [kind(left), kind(left + [thing[place]]), kind(list(thing[:place + 1]) + list(thing[place:]))]
    return told


def bends(thing):
    """Each thing that comes of this one by a bend at one place."""
    yield from others(thing)
    if isinstance(thing, (list, tuple)):
        for place, part in enumerate(thing):
            for bent in bends(part):
                yield type(thing)(list(thing[:place]) + [bent] + list(thing[place + 1:]))


def some(things, many, seed):
    """All things where there aren't more than many, else that many of them, always the same."""
    things = list(things)
    return things if len(things) <= many else random.Random(seed).sample(things, many)


def bent_same(thing, bent):
    """Whether the two are written alike, down to truths and kinds of lists."""
    return repr(thing) == repr(bent)


def is_true(claim):
    """Whether what is claimed is so, as the house itself answers. (The claim is written as it must be.)"""
    judge = {
        "common": lambda f, g, d: greatest(f, g)[0] == d,
        "bare": lambda f: f != [] and all(often == 1 for part, often in bare_parts(f)),
        "unsplit": lambda f: wholeness(f) is not None,
        "split": lambda f, c, parts: len(f) > 1 and split(f) == (c, parts),
        "roots": are_stretches,
        "same": lambda e, g: parting(read(e), read(g)) is None,
        "unlike": lambda e, g: parting(read(e), read(g)) is not None,
        "sign": lambda f, root, s: sign_at(f, root) == s,
        "plus": lambda a, b, c: root_plus(a, b) == c,
        "times": lambda a, b, c: root_times(a, b) == c,
        "parted": lambda t, row, found: pieces(t) == (row, found),
        "sum": lambda t, found: difference(found) == t,
        "area": lambda t, found: rise(found) == t,
        "no sum": lambda t: summed(t)[0] is False,
        "no area": lambda t: area(t)[0] is False,
    }[claim[0]]
    try:
        return judge(*claim[1:])
    except HouseError:
        return False


def are_stretches(f, stretches):
    if len(f) < 2 or not is_true(("bare", f)) or count(f, (-FAR, 1), (FAR, 1)) != len(stretches):
        return False
    ends = [to_fraction(end) for stretch in stretches for end in stretch]
    return ends == sorted(ends) and all(count(f, low, high) == 1 for low, high in stretches)


def difference(found):
    top, bottom = found
    ahead, below = row_moved(top, (1, 1)), row_moved(bottom, (1, 1))
    return quotient_of(row_minus(row_times(ahead, bottom), row_times(top, below)), row_times(below, bottom))


def rise(found):
    top, bottom = found
    return quotient_of(row_minus(row_times(slope(top), bottom), row_times(top, slope(bottom))), row_times(bottom, bottom))
